import PyProof.Rows.All
import Wide.All
import OpenK.AllK
import Wide.FinOn
import Lean
import PyProof.EqAt
import PyProof.EqKinds
import PyProof.TupleCall
import PySem.Challenge.RW_rootcourt_k61_one_plain_form
set_option maxHeartbeats 4000000
set_option Elab.async false
set_option linter.all false
set_option maxRecDepth 100000
namespace L2
open PySem PySem.Spec PyProof.Rows
abbrev Key := Sum Int Str
def Ais : Key -> Value -> Bool
  | .inl k, v => Value.isInt k v
  | .inr x, v => Value.isStrOf x v
def Ak3 (w : World) : Key -> Int
  | .inl k => hashInt k
  | .inr x => hashStr w x
theorem Dc : ∀ {k : Key} {v : Value}, Ais k v = true -> (∃ i t, k = Sum.inl i /\ v = Value.int i t) \/ (∃ x t, k = Sum.inr x /\ v = Value.str x t)
  | .inl i, v, h => by
    obtain ⟨t, e⟩ := Value.isInt_shape (k := i) (v := v) h
    exact .inl ⟨i, t, rfl, e⟩
  | .inr x, v, h => by
    obtain ⟨t, e⟩ := Value.isStrOf_shape (x := x) (v := v) h
    exact .inr ⟨x, t, rfl, e⟩
theorem Ahv (a b : Int) : decide ((Sum.inl a : Key) = Sum.inl b) = (a == b) := by
  by_cases e : a = b
  . subst e; simp
  . have h : ¬ (Sum.inl a : Key) = Sum.inl b := fun q => e (Sum.inl.inj q)
    rw [decide_eq_false h]
    exact (beq_eq_false_iff_ne.mpr e).symm
theorem Ail (a b : Str) : decide ((Sum.inr a : Key) = Sum.inr b) = decide (a = b) := by
  by_cases e : a = b
  . subst e; simp
  . have h : ¬ (Sum.inr a : Key) = Sum.inr b := fun q => e (Sum.inr.inj q)
    rw [decide_eq_false h, decide_eq_false e]
theorem Ahe (a : Int) (b : Str) : decide ((Sum.inl a : Key) = Sum.inr b) = false := decide_eq_false (fun q => nomatch q)
theorem Ahx (a : Str) (b : Int) : decide ((Sum.inr a : Key) = Sum.inl b) = false := decide_eq_false (fun q => nomatch q)
def Aay (prog : Program) (w : World) : PySem.KeyKind prog w Key where
  is := Ais
  hash := Ak3 w
  inj := fun v a b ha hb => by
    rcases Dc ha with ⟨i, t, rfl, rfl⟩ | ⟨x, t, rfl, rfl⟩
    . rcases Dc hb with ⟨j, u, rfl, e⟩ | ⟨y, u, rfl, e⟩
      . injection e with e1 _; rw [e1]
      . exact nomatch e
    . rcases Dc hb with ⟨j, u, rfl, e⟩ | ⟨y, u, rfl, e⟩
      . exact nomatch e
      . injection e with e1 _; rw [e1]
  byValue := fun k v h => by
    rcases Dc h with ⟨i, t, rfl, rfl⟩ | ⟨x, t, rfl, rfl⟩ <;> rfl
  pyHash := fun hv h => by
    rcases Dc hv with ⟨i, t, rfl, rfl⟩ | ⟨x, t, rfl, rfl⟩
    . exact wpAny_pyHash_int h
    . exact wpAny_pyHash_str h
  eqBool := fun hu hv h => by
    rcases Dc hu with ⟨i, t, rfl, rfl⟩ | ⟨x, t, rfl, rfl⟩
    . rcases Dc hv with ⟨j, u, rfl, rfl⟩ | ⟨y, u, rfl, rfl⟩
      . rw [Ahv] at h; exact wpAny_eqBool_int h
      . rw [Ahe] at h; exact SeqAt.EqAt.int_str i t y u _ _ _ _ h
    . rcases Dc hv with ⟨j, u, rfl, rfl⟩ | ⟨y, u, rfl, rfl⟩
      . rw [Ahx] at h; exact SeqAt.EqAt.str_int x t j u _ _ _ _ h
      . rw [Ail] at h; exact wpAny_eqBool_str h
  «strs» := fun k x t v h => by
    rcases Dc h with ⟨i, u, rfl, e⟩ | ⟨y, u, rfl, e⟩
    . exact nomatch e
    . injection e with e1 _
      subst e1
      cases v <;> rfl
end L2
namespace L2
open PySem PySem.Spec PyProof.Rows
inductive V where
  | non | bl (b : Bool) | int (i : Int) | str (x : Str) | byt (b : Array UInt8) | flt (b : UInt64) | ref (a : Addr) | ty (n : String)
  deriving DecidableEq
def RelV : V -> Value -> Prop
  | .non, u => u = Value.none
  | .bl b, u => u = Value.bool b
  | .int i, u => ∃ t, u = Value.int i t
  | .str x, u => ∃ t, u = Value.str x t
  | .byt b, u => ∃ t, u = Value.bytes b t
  | .flt b, u => ∃ t, u = Value.float b t
  | .ref a, u => u = Value.ref a
  | .ty n, u => u = Value.type n
abbrev Vals : List V -> List Value -> Prop := Paired RelV
theorem Vals.length {xs : List V} {us : List Value} (r : Vals xs us) : xs.length = us.length := Paired.length r
theorem Vals.get : ∀ {xs : List V} {us : List Value} {i : Nat} {x : V}, Vals xs us -> xs[i]? = some x -> ∃ u, us[i]? = some u /\ RelV x u
  | _, _, _, _, .nil, e => by simp at e
  | _, _, 0, _, .cons r _, e => by simp at e; subst e; exact ⟨_, rfl, r⟩
  | _, _, i + 1, x, .cons _ t, e => by
    obtain ⟨u, h1, h2⟩ := Vals.get (i := i) (x := x) t (by simpa using e)
    exact ⟨u, by simpa using h1, h2⟩
theorem Vals.set {x : V} {u : Value} (r : RelV x u) : ∀ {xs : List V} {us : List Value} (i : Nat), Vals xs us -> Vals (xs.set i x) (us.set i u)
  | _, _, _, .nil => .nil
  | _, _, 0, .cons _ t => .cons r t
  | _, _, i + 1, .cons q t => .cons q (Vals.set r i t)
theorem Vals.append : ∀ {xs ys : List V} {us ws : List Value}, Vals xs us -> Vals ys ws -> Vals (xs ++ ys) (us ++ ws)
  | _, _, _, _, .nil, s => s
  | _, _, _, _, .cons r t, s => .cons r (Vals.append t s)
theorem Vals.take : ∀ {xs : List V} {us : List Value} (n : Nat), Vals xs us -> Vals (xs.take n) (us.take n)
  | _, _, 0, _ => .nil
  | _, _, _ + 1, .nil => .nil
  | _, _, n + 1, .cons r t => .cons r (Vals.take n t)
theorem Vals.drop : ∀ {xs : List V} {us : List Value} (n : Nat), Vals xs us -> Vals (xs.drop n) (us.drop n)
  | _, _, 0, r => r
  | _, _, _ + 1, .nil => .nil
  | _, _, n + 1, .cons _ t => Vals.drop n t
def Ai2 : Option V -> Option Value -> Prop
  | some v, some u => RelV v u
  | none, none => True
  | _, _ => False
def KV {κ : Type} : List (κ × V) -> List (κ × Value) -> Prop := Paired fun (p : κ × V) (q : κ × Value) => p.1 = q.1 /\ RelV p.2 q.2
def kV : Key -> V
  | .inl i => .int i
  | .inr x => .str x
inductive HO where
  | lst (xs : List V)
  | tup (xs : List V)
  | dK (kvs : List (Key × V)) | dT (kvs : List (List Key × V))
  | set (S : Int -> Bool) (n : Nat)
  | ins (C dx : Addr) (fs : List (Str × V))
  | own (x : Addr)
  | xd (fs : List (Str × V))
  | met (f x : Addr)
  | rng (lo hi : Int)
  | frz (o : Obj) (u : HO)
  | tbl (ps : Array Value)
  | ext (φ : Heap -> Prop)
abbrev Hp := Addr -> Option HO
def upd (H : Hp) (a : Addr) (o : HO) : Hp := fun b => if b = a then some o else H b
theorem Af {H : Hp} {a : Addr} {o : HO} : upd H a o a = some o := by unfold upd; rw [if_pos rfl]
theorem Cm {H : Hp} {a b : Addr} {o : HO} (h : b ≠ a) : upd H a o b = H b := by unfold upd; rw [if_neg h]
theorem Aip {H : Hp} {a b : Addr} {o u : HO} (h : H a = some o) (h' : H b = some u) (d : o ≠ u) : a ≠ b := by
  intro e; subst e; rw [h] at h'; exact d (Option.some.inj h')
theorem Bt {H : Hp} {a b : Addr} {o : HO} (h : H a = some o) (h' : H b = none) : a ≠ b := by
  intro e; subst e; rw [h] at h'; cases h'
section
variable (P : Program) (w : World)
def Ho (H : Hp) (h : Heap) (a : Addr) : HO -> Prop
  | .lst xs => xs.length <= sizeLine /\ ∃ (its : List Value) (n : Nat), Vals xs its /\ h.get? a = some { cls := .type "list", data := .seq its.toArray n }
  | .tup xs => xs.length <= sizeLine /\ ∃ its : List Value, Vals xs its /\ IsTup h a its.toArray
  | .dK kvs => kvs.length <= sizeLine /\ (a == sysModules) = false /\ ∃ vs, KV kvs vs /\ h.DictOf (Aay P w) a vs
  | .dT kvs => kvs.length <= sizeLine /\ (a == sysModules) = false /\ ∃ xs : List (List Key × Addr × Value),
      Paired (fun (p : List Key × V) (q : List Key × Addr × Value) => p.1 = q.1 /\ H q.2.1 = some (.tup (p.1.map kV)) /\ RelV p.2 q.2.2) kvs xs /\
      ∃ o es ep, h.get? a = some o /\ o.ExactDict /\ o.data = .dict es ep /\ es.toList = xs.map (entryOfKey (tupleKind (Aay P w))) /\ (xs.map (·.1)).Nodup
  | .set S n => h.SetOf (intKind P w) a S n
  | .ins C dx fs => H dx = some (.own a) /\ fs.length <= 1000 /\ dx ≠ a /\ h.get? a = some (PySem.W.instObj C dx) /\
      ∃ mA, h.Ns1 dx mA /\ (∀ f, Ai2 (fs.lookup f) (mA f)) /\ PySem.Within mA (fs.map (·.1))
  | .own _ => ∃ o, h.get? a = some o
  | .xd fs => ∃ mA, h.Ns1 a mA /\ ∀ f, Ai2 (fs.lookup f) (mA f)
  | .rng lo hi => ∃ t u v, h.get? a = some { cls := .type "range", data := .fields #[.int lo t, .int hi u, .int 1 v] }
  | .frz o u => h.get? a = some o /\ Ho H h a u
  | .tbl ps => h.get? a = some { cls := .none, data := .fields ps }
  | .met f x => h.get? a = some (PySem.W.methodObj (.ref f) (.ref x))
  | .ext φ => φ h /\ (∃ o, h.get? a = some o) /\ ∀ h1 h2 : Heap, φ h1 -> (∀ o, h1.get? a = some o -> h2.get? a = some o) -> φ h2
def HOk (H : Hp) (h : Heap) : Prop := ∀ a o, H a = some o -> Ho P w H h a o
end
section
variable {P : Program} {w : World} {H H' : Hp} {h h' : Heap} {a : Addr} {o : HO}
theorem Ho.lt (x : Ho P w H h a o) : a < h.objs.size := by
  cases o with
  | lst xs => obtain ⟨_, _, _, _, e⟩ := x; exact Heap.lt_size e
  | tup xs => obtain ⟨_, _, _, p⟩ := x; exact p.lt
  | dK kvs => obtain ⟨_, _, _, _, o, _, _, e, _⟩ := x; exact Heap.lt_size e
  | dT kvs => obtain ⟨_, _, _, _, o, _, _, e, _⟩ := x; exact Heap.lt_size e
  | set S n => obtain ⟨o, _, _, _, e, _⟩ := x; exact Heap.lt_size e
  | ins C dx fs => obtain ⟨_, _, _, e, _⟩ := x; exact Heap.lt_size e
  | own y => obtain ⟨_, e⟩ := x; exact Heap.lt_size e
  | xd fs => obtain ⟨_, ⟨_, _, _, e, _⟩, _⟩ := x; exact Heap.lt_size e
  | rng lo hi => obtain ⟨_, _, _, e⟩ := x; exact Heap.lt_size e
  | frz ob u => obtain ⟨e, _⟩ := x; exact Heap.lt_size e
  | tbl ps => exact Heap.lt_size (show h.get? a = some _ from x)
  | met f y => exact Heap.lt_size (show h.get? a = some _ from x)
  | ext φ => obtain ⟨_, ⟨_, e⟩, _⟩ := x; exact Heap.lt_size e
theorem Paired.mapP {α β : Type} {F G : α -> β -> Prop} : ∀ {l₁ : List α} {l₂ : List β}, Paired F l₁ l₂ -> (∀ a b, F a b -> G a b) -> Paired G l₁ l₂
  | _, _, .nil, _ => .nil
  | _, _, .cons r t, f => .cons (f _ _ r) (Paired.mapP t f)
theorem Ho.stay (x : Ho P w H h a o) (k : ∀ b u, (b = a \/ H b = some (.own a)) -> h.get? b = some u -> h'.get? b = some u)
    (ho : ∀ b, H b = some (.own a) -> H' b = some (.own a)) (ht : ∀ b xs, H b = some (.tup xs) -> H' b = some (.tup xs)) : Ho P w H' h' a o := by
  induction o with
  | lst xs => obtain ⟨z, its, n, r, e⟩ := x; exact ⟨z, its, n, r, k _ _ (.inl rfl) e⟩
  | tup xs => obtain ⟨z, its, r, ob, e, c⟩ := x; exact ⟨z, its, r, ob, k _ _ (.inl rfl) e, c⟩
  | dK kvs => obtain ⟨z, y, vs, r, ob, es, ep, e, c⟩ := x; exact ⟨z, y, vs, r, ob, es, ep, k _ _ (.inl rfl) e, c⟩
  | dT kvs =>
    obtain ⟨z, y, xs, r, ob, es, ep, e, c⟩ := x
    exact ⟨z, y, xs, Paired.mapP r fun p q z => ⟨z.1, ht _ _ z.2.1, z.2.2⟩, ob, es, ep, k _ _ (.inl rfl) e, c⟩
  | set S n => obtain ⟨ob, es, ep, t, e, c⟩ := x; exact ⟨ob, es, ep, t, k _ _ (.inl rfl) e, c⟩
  | ins C dx fs =>
    obtain ⟨d, z, ne, e, mA, ⟨od, es, ep, e2, c⟩, r⟩ := x
    exact ⟨ho _ d, z, ne, k _ _ (.inl rfl) e, mA, ⟨od, es, ep, k _ _ (.inr d) e2, c⟩, r⟩
  | own y => obtain ⟨ob, e⟩ := x; exact ⟨ob, k _ _ (.inl rfl) e⟩
  | xd fs => obtain ⟨mA, ⟨od, es, ep, e, c⟩, r⟩ := x; exact ⟨mA, ⟨od, es, ep, k _ _ (.inl rfl) e, c⟩, r⟩
  | rng lo hi => obtain ⟨t, u, v, e⟩ := x; exact ⟨t, u, v, k _ _ (.inl rfl) e⟩
  | frz ob u ih => obtain ⟨e, q⟩ := x; exact ⟨k _ _ (.inl rfl) e, ih q⟩
  | tbl ps =>
    have e : h.get? a = some { cls := .none, data := .fields ps } := x
    show h'.get? a = some { cls := .none, data := .fields ps }
    exact k a _ (.inl rfl) e
  | met f y =>
    have e : h.get? a = some (PySem.W.methodObj (.ref f) (.ref y)) := x
    show h'.get? a = some (PySem.W.methodObj (.ref f) (.ref y))
    exact k a _ (.inl rfl) e
  | ext φ => obtain ⟨p, ⟨o, e⟩, st⟩ := x; exact ⟨st _ _ p fun o q => k _ _ (.inl rfl) q, ⟨o, k _ _ (.inl rfl) e⟩, st⟩
theorem HOk.lt (x : HOk P w H h) (e : H a = some o) : a < h.objs.size := (x a o e).lt
theorem HOk.fresh (x : HOk P w H h) (e : h.objs.size <= a) : H a = none := by
  cases q : H a with
  | none => rfl
  | some u => exact absurd (Nat.lt_of_lt_of_le (x.lt q) e) (Nat.lt_irrefl _)
theorem HOk.kept (x : HOk P w H h) (k : ∀ b u, h.get? b = some u -> h'.get? b = some u) : HOk P w H h' := fun a o e =>
  (x a o e).stay (fun b u _ q => k b u q) (fun _ q => q) fun _ _ q => q
theorem HOk.laid (x : HOk P w H h) (k : ∀ b u, h.get? b = some u -> h'.get? b = some u) (hp : h.objs.size <= a) (new : Ho P w (upd H a o) h' a o) : HOk P w (upd H a o) h' := fun b u e => by
  have hn := x.fresh hp
  by_cases hb : b = a
  . subst hb; rw [Af] at e; cases e; exact new
  . rw [Cm hb] at e
    exact (x b u e).stay (fun c v _ q => k c v q) (fun c q => by rw [Cm (Bt q hn)]; exact q) fun c xs q => by rw [Cm (Bt q hn)]; exact q
end
def Rd (H : Hp) (a : Addr) (u : HO) : Prop := H a = some u \/ ∃ o, H a = some (.frz o u)
theorem Rd.of {H : Hp} {a : Addr} {u : HO} (h : H a = some u) : Rd H a u := .inl h
theorem Rd.ok {P : Program} {w : World} {H : Hp} {h : Heap} {a : Addr} {u : HO} (r : Rd H a u) (x : HOk P w H h) : Ho P w H h a u := by
  rcases r with r | ⟨o, r⟩
  . exact x a u r
  . obtain ⟨_, q⟩ := x a _ r
    exact q
def Mut : Option HO -> Prop
  | some (.lst _) => True
  | some (.dK _) => True
  | some (.dT _) => True
  | some (.set _ _) => True
  | some (.ins _ _ _) => True
  | some (.ext _) => True
  | _ => False
section
variable {P : Program} {w : World} {H : Hp} {h h' : Heap} {x e : Addr} {o' : HO}
theorem HOk.write (ok : HOk P w H h) (mu : Mut (H x)) (he : e = x \/ H e = some (.own x)) (k : ∀ b u, b ≠ e -> h.get? b = some u -> h'.get? b = some u) (heo : ∃ u, h'.get? e = some u)
    (new : Ho P w (upd H x o') h' x o') : HOk P w (upd H x o') h' := fun b u q => by
  have nown : ∀ c y, H c = some (.own y) -> c ≠ x := fun c y r z => by subst z; rw [r] at mu; exact mu
  have ntup : ∀ c xs, H c = some (.tup xs) -> c ≠ x := fun c xs r z => by subst z; rw [r] at mu; exact mu
  by_cases hb : b = x
  . subst hb; rw [Af] at q; cases q; exact new
  . rw [Cm hb] at q
    by_cases hbe : b = e
    . have q' : H b = some (.own x) := by
        rcases he with z | z
        . exact absurd (hbe.trans z) hb
        . rw [hbe]; exact z
      rw [q] at q'; cases q'
      obtain ⟨v, hv⟩ := heo
      exact ⟨v, by rw [hbe]; exact hv⟩
    . refine (ok b u q).stay (fun c v hc r => k c v ?_ r) (fun c r => by rw [Cm (nown c b r)]; exact r) fun c xs r => by rw [Cm (ntup c xs r)]; exact r
      rcases hc with rfl | hc
      . exact hbe
      . rintro rfl
        rcases he with z | z
        . exact nown c b hc z
        . rw [hc] at z; cases z; exact hb rfl
end
structure Un (fs ex : List Addr) (H H' : Hp) (h h' : Heap) : Prop where
  keep : ∀ b o, h.get? b = some o -> H b = none -> b ∉ fs -> b ∉ ex -> h'.get? b = some o
  slot : ∀ b o, h.get? b = some o -> H b = none -> b ∈ fs -> b ∉ ex -> ∃ sl, h'.get? b = some { o with slots := sl }
  free : ∀ b o, h.get? b = some o -> H b = none -> b ∉ ex -> H' b = none
  there : ∀ b o, h.get? b = some o -> b ∉ ex -> ∃ o', h'.get? b = some o'
  tups : ∀ b xs, H b = some (.tup xs) -> H' b = some (.tup xs)
  frzs : ∀ b o u, H b = some (.frz o u) -> H' b = some (.frz o u)
  tbls : ∀ b ps, H b = some (.tbl ps) -> ∃ more, H' b = some (.tbl (ps ++ more))
section
variable {fs fs' ex ex' : List Addr} {H H1 H2 : Hp} {h h1 h2 h' : Heap} {a x e : Addr} {o : HO}
theorem Un.any (u : Un fs ex H H1 h h1) {b : Addr} {ob : Obj} (q : h.get? b = some ob) (n : H b = none) (hx : b ∉ ex) : ∃ sl, h1.get? b = some { ob with slots := sl } := by
  by_cases hb : b ∈ fs
  . exact u.slot b ob q n hb hx
  . exact ⟨ob.slots, u.keep b ob q n hb hx⟩
theorem Un.trans (a : Un fs ex H H1 h h1) (b : Un fs ex H1 H2 h1 h2) : Un fs ex H H2 h h2 where
  keep := fun c ob q n hc hx => b.keep c ob (a.keep c ob q n hc hx) (a.free c ob q n hx) hc hx
  slot := fun c ob q n hc hx => by
    obtain ⟨sl, e1⟩ := a.slot c ob q n hc hx
    obtain ⟨sl', e2⟩ := b.slot c _ e1 (a.free c ob q n hx) hc hx
    exact ⟨sl', e2⟩
  free := fun c ob q n hx => by
    obtain ⟨o', e1⟩ := a.there c ob q hx
    exact b.free c o' e1 (a.free c ob q n hx) hx
  there := fun c ob q hx => by
    obtain ⟨o', e1⟩ := a.there c ob q hx
    exact b.there c o' e1 hx
  tups := fun c xs q => b.tups c xs (a.tups c xs q)
  frzs := fun c ob xs q => b.frzs c ob xs (a.frzs c ob xs q)
  tbls := fun c ps q => by
    obtain ⟨m1, e1⟩ := a.tbls c ps q
    obtain ⟨m2, e2⟩ := b.tbls c _ e1
    exact ⟨m1 ++ m2, by rw [e2, Array.append_assoc]⟩
theorem Un.kept (k : ∀ b u, h.get? b = some u -> h'.get? b = some u) : Un fs ex H H h h' :=
  ⟨fun b ob q _ _ _ => k b ob q, fun b ob q _ _ _ => ⟨ob.slots, k b ob q⟩, fun _ _ _ n _ => n, fun b ob q _ => ⟨ob, k b ob q⟩, fun _ _ q => q, fun _ _ _ q => q, fun _ ps q => ⟨#[], by rw [q]; simp⟩⟩
theorem Un.refl : Un fs ex H H h h := Un.kept fun _ _ q => q
theorem Un.laid (k : ∀ b u, h.get? b = some u -> h'.get? b = some u) (hp : h.objs.size <= a) (hn : H a = none) : Un fs ex H (upd H a o) h h' where
  keep := fun b u q _ _ _ => k b u q
  slot := fun b u q _ _ _ => ⟨u.slots, k b u q⟩
  free := fun b u q n _ => by rw [Cm (Nat.ne_of_lt (Nat.lt_of_lt_of_le (Heap.lt_size q) hp))]; exact n
  there := fun b u q _ => ⟨u, k b u q⟩
  tups := fun b xs q => by rw [Cm (Bt q hn)]; exact q
  frzs := fun b u xs q => by rw [Cm (Bt q hn)]; exact q
  tbls := fun b ps q => ⟨#[], by rw [Cm (Bt q hn), q]; simp⟩
theorem Un.write (mu : Mut (H x)) (he : e = x \/ H e = some (.own x)) (k : ∀ b u, b ≠ e -> h.get? b = some u -> h'.get? b = some u) (heo : ∃ u, h'.get? e = some u) : Un fs ex H (upd H x o) h h' := by
  have hx : ∀ b, H b = none -> b ≠ x := fun b n z => by subst z; rw [n] at mu; exact mu
  have hb : ∀ b, H b = none -> b ≠ e := fun b n z => by
    subst z
    rcases he with r | r
    . exact hx b n r
    . rw [n] at r; cases r
  have hm : ∀ b u, H b = some u -> ¬ Mut (some u) -> b ≠ x := fun b u q nm z => by subst z; rw [q] at mu; exact nm mu
  refine ⟨fun b u q n _ _ => k b u (hb b n) q, fun b u q n _ _ => ⟨u.slots, k b u (hb b n) q⟩, fun b u q n _ => by rw [Cm (hx b n)]; exact n, fun b u q _ => ?_,
    fun b xs q => by rw [Cm (hm b _ q fun z => z)]; exact q, fun b u xs q => by rw [Cm (hm b _ q fun z => z)]; exact q, fun b ps q => ⟨#[], by rw [Cm (hm b _ q fun z => z), q]; simp⟩⟩
  by_cases hbe : b = e
  . subst hbe; exact heo
  . exact ⟨u, k b u hbe q⟩
theorem Un.mono (u : Un fs ex H H1 h h1) (hs : ∀ b ∈ fs, b ∈ fs') (hx : ∀ b ∈ ex, b ∈ ex') : Un fs' ex' H H1 h h1 :=
  ⟨fun b ob q n hb he => u.keep b ob q n (fun z => hb (hs b z)) fun z => he (hx b z), fun _ _ q n _ he => u.any q n fun z => he (hx _ z), fun b ob q n he => u.free b ob q n fun z => he (hx b z), fun b ob q he => u.there b ob q fun z => he (hx b z), u.tups, u.frzs, u.tbls⟩
end
def trk (h : Heap) (H : Hp) : List Addr := (List.range h.objs.size).filter fun a => (H a).isSome
def Ada (h : Heap) (H : Hp) : Heap := PySem.W.hideAll h (trk h H)
theorem Zk (h : Heap) (H : Hp) : (Ada h H).objs.size = h.objs.size := PySem.W.hideAll_size _ _
theorem Acs {h : Heap} {H : Hp} {b : Addr} {o : Obj} (e : h.get? b = some o) (n : H b = none) : (Ada h H).get? b = some o :=
  PySem.W.hideAll_get _ e fun hm => by
    have q : (H b).isSome = true := (List.mem_filter.mp hm).2
    rw [n] at q; simp at q
theorem Af2 {h : Heap} {H : Hp} {b : Addr} {o : Obj} (e : (Ada h H).get? b = some o) : h.get? b = some o /\ H b = none := by
  have e' : h.get? b = some o := PySem.W.of_hideAll (trk h H) e
  refine ⟨e', ?_⟩
  cases q : H b with
  | none => rfl
  | some x =>
    have hm : b ∈ trk h H := List.mem_filter.mpr ⟨List.mem_range.mpr (Heap.lt_size e'), by simp [q]⟩
    have z : (Ada h H).get? b = none := PySem.W.hideAll_none (trk h H) hm
    rw [z] at e; cases e
def Ae8 (g h : Heap) (L : Addr) : List (Addr × Obj) := (List.range h.objs.size).filterMap fun a => if a = L \/ (g.get? a).isSome = true then none else (h.get? a).map fun o => (a, o)
def rest (g h : Heap) (L d : Addr) : List (Addr × Obj) := (Ae8 g h L).filter fun p => decide (p.1 ≠ d)
end L2
namespace L2
open PySem PySem.Spec PyProof.Rows
structure Mod (K : PySem.W.Frag) (mg : Str -> Option Value) (base : Heap) : Prop where
  kin : K.In base
  glob : base.Ns mainGlobals mg
  blt : ∃ mb, base.Ns builtinsNs mb /\ ∀ x : Str, x ≠ "__name__" -> mb x = bootBuiltins x
  nolimit : base.NoLimit
structure Cx where
  prog : Program
  w : World
  K : PySem.W.Frag
  mg : Str -> Option Value
  base : Heap
  A : Around
  N : List Str
  s₀ : Shared
  H₀ : Hp
  env : Env
  outer : List Env
  stack : List Env
  ex : List Addr
  fn : Str -> Bool
  calm : Bool
  pn : List (Addr × Obj)
  xe : Value -> Shared -> Prop
def frs (l : List Env) : List Addr := l.filterMap (·.frame)
abbrev Cx.fs (X : Cx) : List Addr := frs X.outer
def Vis (sc : Scope) (x : Str) : Prop := sc.names.lookup x = some .local \/ sc.names.lookup x = some .cell \/ sc.names.lookup x = some .free
def Loc (sc : Scope) (x : Str) : Prop := sc.names.lookup x = some .local \/ sc.names.lookup x = some .cell
def Look (env : Env) (h : Heap) (m : Str -> Option Value) (x : Str) (u : Value) : Prop :=
  (env.kindOf x = some .local /\ m x = some u) \/ ((env.kindOf x = some .cell \/ env.kindOf x = some .free) /\ ∃ c, env.cells.lookup x = some c /\ h.IsCell c (some u))
structure Cx.Ok (X : Cx) : Prop where
  mod : Mod X.K X.mg X.base
  kind : X.env.scope.kind = .function
  glob : X.env.globals = mainGlobals
  blt : X.env.builtins = builtinsNs
  above : X.s₀.heap.objs.size <= X.env.locals
  inj : ∀ x y c, X.env.cells.lookup x = some c -> X.env.cells.lookup y = some c -> x = y
  has : ∀ x, (X.env.kindOf x = some .cell \/ X.env.kindOf x = some .free) -> ∃ c, X.env.cells.lookup x = some c
  cab : ∀ x c, X.fn x = true -> X.env.cells.lookup x = some c -> X.s₀.heap.objs.size <= c
  hd : X.calm = true -> X.A.handled = none
  frames : X.A.frames = some X.stack
  stk : X.stack = X.outer \/ (X.stack = X.env :: X.outer /\ X.env.frame = some X.env.locals)
  exf : ∀ b ∈ X.ex, b ≠ X.env.locals /\ ∀ x c, X.env.cells.lookup x = some c -> c ≠ b
  bs : ∀ b o, X.base.get? b = some o -> X.s₀.heap.get? b = some o /\ X.H₀ b = none
  bsz : X.base.objs.size <= X.s₀.heap.objs.size
  noex : ∀ b o, X.base.get? b = some o -> b ∉ X.ex
  exfs : ∀ b ∈ X.ex, b ∉ X.fs
  funs : X.s₀.heap.FunFrames X.base X.outer
  frf : ∀ b ∈ X.fs, X.H₀ b = none
structure Inv (X : Cx) (pins : List (Addr × Obj)) (σ : List (Option V)) (H : Hp) (s : Shared) : Prop where
  ok : X.Ok
  os : s.os = X.s₀.os
  bare : AllBare s.gens
  base : Un X.fs X.ex X.H₀ H X.s₀.heap s.heap
  loc : ∃ m, s.heap.Ns X.env.locals m /\ ∀ (i : Nat) (x : Str) (v : V), X.N[i]? = some x -> σ[i]? = some (some v) -> Vis X.env.scope x -> ∃ u, RelV v u /\ Look X.env s.heap m x u
  cell : ∀ x c, X.env.cells.lookup x = some c -> ∃ v, s.heap.IsCell c v
  free : H X.env.locals = none
  freeC : ∀ x c, X.env.cells.lookup x = some c -> H c = none
  pin : ∀ p ∈ X.pn ++ pins, s.heap.get? p.1 = some p.2 /\ H p.1 = none /\ p.1 ≠ X.env.locals /\ p.1 ∉ X.fs /\ ∀ v, p.2.data ≠ .cell v
  hok : HOk X.prog X.w H s.heap
  len : σ.length = X.N.length
section
variable {X : Cx} {pins : List (Addr × Obj)} {σ : List (Option V)} {H H' : Hp} {s : Shared} {h' : Heap}
theorem Cx.Ok.nofr (ok : X.Ok) {b : Addr} {o : Obj} (e : X.base.get? b = some o) : b ∉ X.fs := fun hb => by
  have := (ok.funs.mem hb).1
  rw [e] at this; cases this
theorem Inv.bs (I : Inv X pins σ H s) : ∀ b o, X.base.get? b = some o -> s.heap.get? b = some o /\ H b = none := fun b o e =>
  ⟨I.base.keep b o (I.ok.bs b o e).1 (I.ok.bs b o e).2 (I.ok.nofr e) (I.ok.noex b o e), I.base.free b o (I.ok.bs b o e).1 (I.ok.bs b o e).2 (I.ok.noex b o e)⟩
theorem Inv.bk (I : Inv X pins σ H s) : ∀ b o, X.base.get? b = some o -> s.heap.get? b = some o := fun b o e => (I.bs b o e).1
theorem Inv.mod (I : Inv X pins σ H s) : Mod X.K X.mg X.base := I.ok.mod
theorem Inv.kIn (I : Inv X pins σ H s) : X.K.In s.heap := I.ok.mod.kin.keeps I.bk
theorem Inv.nolimit (I : Inv X pins σ H s) : s.heap.NoLimit := I.ok.mod.nolimit.keeps I.bk
theorem Inv.fr (I : Inv X pins σ H s) : ∃ m, Fr X.base X.env.locals s.heap m :=
  let ⟨m, hn, _⟩ := I.loc
  ⟨m, hn, I.bk, Nat.le_trans I.ok.bsz I.ok.above⟩
theorem Inv.lt (I : Inv X pins σ H s) : X.env.locals < s.heap.objs.size := let ⟨_, hn, _⟩ := I.loc; hn.lt
theorem Inv.sz (I : Inv X pins σ H s) : X.s₀.heap.objs.size <= s.heap.objs.size := Nat.le_trans I.ok.above (Nat.le_of_lt I.lt)
theorem Inv.nofs (I : Inv X pins σ H s) {a : Addr} (h : s.heap.objs.size <= a) : a ∉ X.fs := fun hb => by
  obtain ⟨_, o, ho, _⟩ := I.ok.funs.mem hb
  exact absurd (Nat.lt_of_lt_of_le (Heap.lt_size ho) (Nat.le_trans I.sz h)) (Nat.lt_irrefl _)
theorem Inv.cne (I : Inv X pins σ H s) : ∀ x c, X.env.cells.lookup x = some c -> c ≠ X.env.locals := fun x c e z => by
  obtain ⟨v, o, ho, hd⟩ := I.cell x c e
  obtain ⟨m, ⟨o', es, ep, ho', hd', _⟩, _⟩ := I.loc
  rw [z, ho'] at ho; cases ho; rw [hd'] at hd; cases hd
theorem Inv.funs (I : Inv X pins σ H s) : s.heap.FunFrames X.base X.outer := by
  have all : ∀ (l : List Env), (∀ b ∈ frs l, b ∈ X.fs) -> X.s₀.heap.FunFrames X.base l -> s.heap.FunFrames X.base l := by
    intro l
    induction l with
    | nil => intro _ _; trivial
    | cons env r ih =>
      intro hs hl
      obtain ⟨hk, ⟨L, o, hf, hn, ho, hd⟩, hr⟩ := hl
      have hL : L ∈ X.fs := hs L (by unfold frs; rw [List.filterMap_cons, hf]; exact List.mem_cons_self)
      obtain ⟨sl, e⟩ := I.base.slot L o ho (I.ok.frf L hL) hL fun z => I.ok.exfs L z hL
      exact ⟨hk, ⟨L, _, hf, hn, e, hd⟩, ih (fun b hb => hs b (by unfold frs; rw [List.filterMap_cons, hf]; exact List.mem_cons_of_mem _ hb)) hr⟩
  exact all X.outer (fun _ hb => hb) I.ok.funs
theorem Inv.stack (I : Inv X pins σ H s) : s.heap.FunFrames X.base X.stack := by
  rcases I.ok.stk with e | ⟨e, hf⟩
  . rw [e]; exact I.funs
  . rw [e]
    obtain ⟨m, hn, _⟩ := I.loc
    refine .cons (by rw [I.ok.kind]; decide) hf hn ?_ I.funs
    exact Heap.get?_none_of_le (Nat.le_trans I.ok.bsz I.ok.above)
theorem Inv.stkSub (I : Inv X pins σ H s) : ∀ b ∈ frs X.stack, b ∈ X.env.locals :: X.fs := fun b hb => by
  rcases I.ok.stk with e | ⟨e, hf⟩
  . rw [e] at hb; exact List.mem_cons_of_mem _ hb
  . rw [e] at hb
    unfold frs at hb
    rw [List.filterMap_cons, hf] at hb
    exact hb
theorem Inv.stkFree (I : Inv X pins σ H s) : ∀ b ∈ frs X.stack, H b = none := fun b hb => by
  rcases List.mem_cons.mp (I.stkSub b hb) with e | hb
  . rw [e]; exact I.free
  . obtain ⟨_, o, ho, _⟩ := I.ok.funs.mem hb
    exact I.base.free b o ho (I.ok.frf b hb) fun z => I.ok.exfs b z hb
theorem Inv.step {g' : Array GenState} {t' : Nat} {d' : Drawn} {ch : List Addr} (I : Inv X pins σ H s)
    (hch : ∀ b ∈ ch, (b ∈ X.ex \/ X.s₀.heap.objs.size <= b) /\ b ≠ X.env.locals /\ (∀ x c, X.env.cells.lookup x = some c -> c ≠ b) /\ ∀ p ∈ X.pn ++ pins, p.1 ≠ b)
    (keep : ∀ b o, b ≠ X.env.locals -> b ∉ X.fs -> b ∉ ch -> s.heap.get? b = some o -> H b = none -> h'.get? b = some o)
    (slot : ∀ b o, b ≠ X.env.locals -> b ∈ X.fs -> b ∉ ch -> s.heap.get? b = some o -> H b = none -> ∃ sl, h'.get? b = some { o with slots := sl }) (free : ∀ b o, b ∉ ch -> s.heap.get? b = some o -> H b = none -> H' b = none)
    (there : ∀ b o, b ∉ ch -> s.heap.get? b = some o -> ∃ o', h'.get? b = some o')
    (tups : ∀ b xs, H b = some (.tup xs) -> H' b = some (.tup xs)) (frzs : ∀ b o u, H b = some (.frz o u) -> H' b = some (.frz o u)) (tbls : ∀ b ps, H b = some (.tbl ps) -> ∃ more, H' b = some (.tbl (ps ++ more)))
    (ns : ∀ m, s.heap.Ns X.env.locals m -> h'.Ns X.env.locals m) (hok : HOk X.prog X.w H' h') (hg : AllBare g') :
    Inv X pins σ H' { s with heap := h', gens := g', drawn := d', toks := t' } := by
  have neL : ∀ b o, X.s₀.heap.get? b = some o -> b ≠ X.env.locals := fun b o e => Nat.ne_of_lt (Nat.lt_of_lt_of_le (Heap.lt_size e) I.ok.above)
  have neC : ∀ b o, X.s₀.heap.get? b = some o -> b ∉ X.ex -> b ∉ ch := fun b o e hx hb => by
    rcases (hch b hb).1 with z | z
    . exact hx z
    . exact absurd (Nat.lt_of_lt_of_le (Heap.lt_size e) z) (Nat.lt_irrefl _)
  have cellK : ∀ x c, X.env.cells.lookup x = some c -> ∀ v, s.heap.IsCell c v -> h'.IsCell c v := fun x c e v ⟨o, ho, hd⟩ => by
    have nch : c ∉ ch := fun z => (hch c z).2.2.1 x c e rfl
    by_cases hc : c ∈ X.fs
    . obtain ⟨sl, q⟩ := slot c o (I.cne x c e) hc nch ho (I.freeC x c e)
      exact ⟨_, q, hd⟩
    . exact ⟨o, keep c o (I.cne x c e) hc nch ho (I.freeC x c e), hd⟩
  refine ⟨I.ok, I.os, hg, ⟨fun b o e n hb hx => ?_, fun b o e n hb hx => ?_, fun b o e n hx => ?_, fun b o e hx => ?_, fun b xs e => tups b xs (I.base.tups b xs e), fun b o xs e => frzs b o xs (I.base.frzs b o xs e), fun b ps e => ?_⟩, ?_, fun x c e => ?_, ?_, fun x c e => ?_, fun p hp => ?_, hok, I.len⟩
  . exact keep b o (neL b o e) hb (neC b o e hx) (I.base.keep b o e n hb hx) (I.base.free b o e n hx)
  . obtain ⟨sl, e1⟩ := I.base.slot b o e n hb hx
    obtain ⟨sl', e2⟩ := slot b _ (neL b o e) hb (neC b o e hx) e1 (I.base.free b o e n hx)
    exact ⟨sl', e2⟩
  . obtain ⟨o', e1⟩ := I.base.there b o e hx
    exact free b o' (neC b o e hx) e1 (I.base.free b o e n hx)
  . obtain ⟨o', e1⟩ := I.base.there b o e hx
    exact there b o' (neC b o e hx) e1
  . obtain ⟨m1, e1⟩ := I.base.tbls b ps e
    obtain ⟨m2, e2⟩ := tbls b _ e1
    exact ⟨m1 ++ m2, by rw [e2, Array.append_assoc]⟩
  . obtain ⟨m, hn, hl⟩ := I.loc
    refine ⟨m, ns m hn, fun i x v e1 e2 e3 => ?_⟩
    obtain ⟨u, r, l⟩ := hl i x v e1 e2 e3
    refine ⟨u, r, ?_⟩
    rcases l with l | ⟨k, c, e, z⟩
    . exact .inl l
    . exact .inr ⟨k, c, e, cellK x c e _ z⟩
  . obtain ⟨v, z⟩ := I.cell x c e
    exact ⟨v, cellK x c e v z⟩
  . obtain ⟨m, ⟨o, _, _, ho, _⟩, _⟩ := I.loc
    exact free _ o (fun z => (hch _ z).2.1 rfl) ho I.free
  . obtain ⟨v, o, ho, hd⟩ := I.cell x c e
    exact free c o (fun z => (hch c z).2.2.1 x c e rfl) ho (I.freeC x c e)
  . obtain ⟨e, n, ne, nf, d⟩ := I.pin p hp
    have nch : p.1 ∉ ch := fun z => (hch p.1 z).2.2.2 p hp rfl
    exact ⟨keep p.1 p.2 ne nf nch e n, free p.1 p.2 nch e n, ne, nf, d⟩
theorem Inv.un {t' : Nat} (I : Inv X pins σ H s) (u : Un X.fs [] H H' s.heap h') (hok : HOk X.prog X.w H' h') : Inv X pins σ H' { s with heap := h', toks := t' } := by
  obtain ⟨m, ⟨o, es, ep, ho, r⟩, _⟩ := id I.loc
  obtain ⟨sl, hL⟩ := u.any ho I.free (by simp)
  exact I.step (g' := s.gens) (d' := s.drawn) (ch := []) (fun _ z => nomatch z) (fun b o _ hb _ e n => u.keep b o e n hb (by simp)) (fun b o _ hb _ e n => u.slot b o e n hb (by simp)) (fun b o _ e n => u.free b o e n (by simp)) (fun b o _ e => u.there b o e (by simp)) u.tups u.frzs u.tbls (fun m' hm => by
    obtain ⟨o', es', ep', ho', r'⟩ := hm
    rw [ho] at ho'; cases ho'
    exact ⟨_, es', ep', hL, r'⟩) hok I.bare
theorem Inv.call {g' : Array GenState} {t' : Nat} {d' : Drawn} {ch : List Addr} (I : Inv X pins σ H s) (u : Un (frs X.stack) ch H H' s.heap h') (hok : HOk X.prog X.w H' h') (hg : AllBare g')
    (hch : ∀ b ∈ ch, (b ∈ X.ex \/ X.s₀.heap.objs.size <= b) /\ b ≠ X.env.locals /\ (∀ x c, X.env.cells.lookup x = some c -> c ≠ b) /\ ∀ p ∈ X.pn ++ pins, p.1 ≠ b) :
    Inv X pins σ H' { s with heap := h', gens := g', drawn := d', toks := t' } := by
  obtain ⟨m, ⟨o, es, ep, ho, r⟩, _⟩ := id I.loc
  obtain ⟨sl, hL⟩ := u.any ho I.free fun z => (hch _ z).2.1 rfl
  exact I.step (ch := ch) hch (fun b o hL hb hc e n => u.keep b o e n (fun z => (List.mem_cons.mp (I.stkSub b z)).elim hL hb) hc) (fun b o _ _ hc e n => u.any e n hc) (fun b o hc e n => u.free b o e n hc) (fun b o hc e => u.there b o e hc) u.tups u.frzs u.tbls (fun m' hm => by
    obtain ⟨o', es', ep', ho', r'⟩ := hm
    rw [ho] at ho'; cases ho'
    exact ⟨_, es', ep', hL, r'⟩) hok hg
theorem Inv.turned {t' : Nat} {it : Addr} (I : Inv X pins σ H s) (k : ∀ b o, b ≠ it -> s.heap.get? b = some o -> h'.get? b = some o) (hn : H it = none) (hL : it ≠ X.env.locals)
    (h1 : it ∈ X.ex \/ X.s₀.heap.objs.size <= it) (h2 : ∀ x c, X.env.cells.lookup x = some c -> c ≠ it) (h3 : ∀ p ∈ X.pn ++ pins, p.1 ≠ it) : Inv X pins σ H { s with heap := h', toks := t' } := by
  have nit : ∀ b u, H b = some u -> b ≠ it := fun b u e z => by rw [z, hn] at e; cases e
  refine I.step (g' := s.gens) (d' := s.drawn) (ch := [it]) (fun b hb => ?_) (fun b o _ _ hc e _ => k b o (fun z => hc (by simp [z])) e) (fun b o _ _ hc e _ => ⟨o.slots, k b o (fun z => hc (by simp [z])) e⟩) (fun _ _ _ _ n => n)
    (fun b o hc e => ⟨o, k b o (fun z => hc (by simp [z])) e⟩) (fun _ _ e => e) (fun _ _ _ e => e) (fun b ps e => ⟨#[], by rw [e]; simp⟩) (fun m hm => ?_) (fun b u e => ?_) I.bare
  . have e : b = it := by simpa using hb
    subst e
    exact ⟨h1, hL, h2, h3⟩
  . obtain ⟨o, es, ep, ho, r⟩ := hm
    exact ⟨o, es, ep, k _ o (Ne.symm hL) ho, r⟩
  . refine (I.hok b u e).stay (fun c v hc q => k c v ?_ q) (fun _ q => q) fun _ _ q => q
    rcases hc with z | z
    . rw [z]; exact nit b u e
    . exact nit c _ z
theorem Inv.tok (I : Inv X pins σ H s) (t : Nat) : Inv X pins σ H { s with toks := t } := I.un (h' := s.heap) (t' := t) Un.refl I.hok
theorem Inv.kept {t' : Nat} (I : Inv X pins σ H s) (k : ∀ b u, s.heap.get? b = some u -> h'.get? b = some u) : Inv X pins σ H { s with heap := h', toks := t' } := I.un (Un.kept k) (I.hok.kept k)
theorem Inv.laid {a : Addr} {o : HO} {t' : Nat} (I : Inv X pins σ H s) (k : ∀ b u, s.heap.get? b = some u -> h'.get? b = some u) (hp : s.heap.objs.size <= a) (new : Ho X.prog X.w (upd H a o) h' a o) :
    Inv X pins σ (upd H a o) { s with heap := h', toks := t' } := I.un (Un.laid k hp (I.hok.fresh hp)) (I.hok.laid k hp new)
theorem Inv.write {x e : Addr} {o : HO} {t' : Nat} (I : Inv X pins σ H s) (mu : Mut (H x)) (he : e = x \/ H e = some (.own x)) (k : ∀ b u, b ≠ e -> s.heap.get? b = some u -> h'.get? b = some u) (heo : ∃ u, h'.get? e = some u)
    (new : Ho X.prog X.w (upd H x o) h' x o) : Inv X pins σ (upd H x o) { s with heap := h', toks := t' } := I.un (Un.write mu he k heo) (I.hok.write mu he k heo new)
theorem Inv.weak {σ' : List (Option V)} (I : Inv X pins σ H s) (hl : σ'.length = σ.length) (w : ∀ (i : Nat) v, σ'[i]? = some (some v) -> σ[i]? = some (some v)) : Inv X pins σ' H s :=
  ⟨I.ok, I.os, I.bare, I.base, let ⟨m, hn, hl'⟩ := I.loc; ⟨m, hn, fun i x v e1 e2 e3 => hl' i x v e1 (w i v e2) e3⟩, I.cell, I.free, I.freeC, I.pin, I.hok, hl.trans I.len⟩
theorem Inv.pins_of {pins' : List (Addr × Obj)} (I : Inv X pins σ H s) (h : ∀ p ∈ pins', s.heap.get? p.1 = some p.2 /\ H p.1 = none /\ p.1 ≠ X.env.locals /\ p.1 ∉ X.fs /\ ∀ v, p.2.data ≠ .cell v) : Inv X pins' σ H s :=
  ⟨I.ok, I.os, I.bare, I.base, I.loc, I.cell, I.free, I.freeC, fun p hp => (List.mem_append.mp hp).elim (fun z => I.pin p (List.mem_append_left _ z)) (h p), I.hok, I.len⟩
theorem Ub {N : List Str} (hN : N.Nodup) {i j : Nat} {x : Str} (a : N[i]? = some x) (b : N[j]? = some x) : i = j := by
  obtain ⟨h1, e1⟩ := List.getElem?_eq_some_iff.mp a
  obtain ⟨h2, e2⟩ := List.getElem?_eq_some_iff.mp b
  exact (List.getElem_inj hN).mp (e1.trans e2.symm)
theorem Abj {M : Model} {A : Around} {E : Value -> Shared -> Prop} {i : Nat} {x : Str} {v : V} {u : Value} {Q : Unit -> Shared -> Prop} (I : Inv X pins σ H s) (hN : X.N.Nodup) (hi : X.N[i]? = some x) (hx : Loc X.env.scope x) (r : RelV v u)
    (h : ∀ s', Inv X pins (σ.set i (some v)) H s' -> (∃ a, Heap.SameBut a s.heap s'.heap /\ (a = X.env.locals \/ X.env.cells.lookup x = some a)) -> Q () s') (hf : X.fn x = true \/ X.env.scope.names.lookup x = some .local := by first | exact .inl rfl | exact .inr rfl | assumption) : wpAny M A (storeName X.env x u) Q E s := by
  obtain ⟨m, hn, hl⟩ := id I.loc
  have hcls : (X.env.scope.kind == .class || (X.env.scope.kind == .module && X.env.locals != X.env.globals)) = false := by rw [I.ok.kind]; rfl
  have hiσ : i < σ.length := by rw [I.len]; exact (List.getElem?_eq_some_iff.mp hi).1
  have cne := I.cne
  have tracked : ∀ {a : Addr} {h' : Heap}, (∃ o, s.heap.get? a = some o /\ H a = none) -> Heap.SameBut a s.heap h' -> HOk X.prog X.w H h' := fun {a h'} ha hs b ob e => by
    obtain ⟨_, _, hfree⟩ := ha
    refine (I.hok b ob e).stay (fun c w' hc q => (hs.2 c ?_).trans q) (fun _ q => q) fun _ _ q => q
    rintro rfl
    rcases hc with rfl | hc
    . rw [hfree] at e; cases e
    . rw [hfree] at hc; cases hc
  rcases hx with hk | hk
  . refine wpAny_storeName_local hk hn (fun h' hn' hs => ?_) hcls
    obtain ⟨oL, _, _, hoL, _⟩ := id hn
    refine h _ ⟨I.ok, I.os, I.bare, ⟨fun b o e n hb hx => ?_, fun b o e n hb hx => ?_, I.base.free, fun b o e hx => ?_, I.base.tups, I.base.frzs, I.base.tbls⟩, ⟨_, hn', fun j y v' e1 e2 e3 => ?_⟩, fun y c e => ?_, I.free, I.freeC, fun p hp => ?_, tracked ⟨oL, hoL, I.free⟩ hs, by simpa using I.len⟩ ⟨_, hs, .inl rfl⟩
    . exact (hs.2 b (Nat.ne_of_lt (Nat.lt_of_lt_of_le (Heap.lt_size e) I.ok.above))).trans (I.base.keep b o e n hb hx)
    . obtain ⟨sl, e1⟩ := I.base.slot b o e n hb hx
      exact ⟨sl, (hs.2 b (Nat.ne_of_lt (Nat.lt_of_lt_of_le (Heap.lt_size e) I.ok.above))).trans e1⟩
    . obtain ⟨o', e1⟩ := I.base.there b o e hx
      exact ⟨o', (hs.2 b (Nat.ne_of_lt (Nat.lt_of_lt_of_le (Heap.lt_size e) I.ok.above))).trans e1⟩
    . by_cases hj : j = i
      . subst hj
        rw [hi] at e1; cases e1
        rw [List.getElem?_set_self hiσ] at e2
        cases e2
        exact ⟨u, r, .inl ⟨hk, by simp⟩⟩
      . rw [List.getElem?_set_ne (Ne.symm hj)] at e2
        obtain ⟨u', r', q⟩ := hl j y v' e1 e2 e3
        refine ⟨u', r', ?_⟩
        rcases q with ⟨k, e⟩ | ⟨k, c, e, z⟩
        . refine .inl ⟨k, ?_⟩
          have : y ≠ x := fun e => hj (Ub hN e1 (e ▸ hi))
          simp [this, e]
        . exact .inr ⟨k, c, e, z.sameBut hs (cne y c e)⟩
    . obtain ⟨w', z⟩ := I.cell y c e
      exact ⟨w', z.sameBut hs (cne y c e)⟩
    . obtain ⟨e, n, ne, nf, d⟩ := I.pin p hp
      exact ⟨(hs.2 p.1 ne).trans e, n, ne, nf, d⟩
  . have hfn : X.fn x = true := by
      rcases hf with z | z
      . exact z
      . rw [z] at hk; cases hk
    obtain ⟨c, hc⟩ := I.ok.has x (.inl hk)
    obtain ⟨w', z⟩ := I.cell x c hc
    refine wpAny_storeName_cell I.ok.kind hk hc z (fun h' hc' hs => ?_)
    obtain ⟨oc, hoc, hocd⟩ := id z
    refine h { s with heap := h' } ⟨I.ok, I.os, I.bare, ⟨fun b o e n hb hx => ?_, fun b o e n hb hx => ?_, I.base.free, fun b o e hx => ?_, I.base.tups, I.base.frzs, I.base.tbls⟩, ⟨m, hn.sameBut hs (Ne.symm (cne x c hc)), fun j y v' e1 e2 e3 => ?_⟩, fun y c' e => ?_, I.free, I.freeC, fun p hp => ?_, tracked ⟨oc, hoc, I.freeC x c hc⟩ hs, by simpa using I.len⟩ ⟨c, hs, .inr hc⟩
    . exact (hs.2 b (Nat.ne_of_lt (Nat.lt_of_lt_of_le (Heap.lt_size e) (I.ok.cab x c hfn hc)))).trans (I.base.keep b o e n hb hx)
    . obtain ⟨sl, e1⟩ := I.base.slot b o e n hb hx
      exact ⟨sl, (hs.2 b (Nat.ne_of_lt (Nat.lt_of_lt_of_le (Heap.lt_size e) (I.ok.cab x c hfn hc)))).trans e1⟩
    . obtain ⟨o', e1⟩ := I.base.there b o e hx
      exact ⟨o', (hs.2 b (Nat.ne_of_lt (Nat.lt_of_lt_of_le (Heap.lt_size e) (I.ok.cab x c hfn hc)))).trans e1⟩
    . by_cases hj : j = i
      . subst hj
        rw [hi] at e1; cases e1
        rw [List.getElem?_set_self hiσ] at e2
        cases e2
        exact ⟨u, r, .inr ⟨.inl hk, c, hc, hc'⟩⟩
      . rw [List.getElem?_set_ne (Ne.symm hj)] at e2
        obtain ⟨u', r', q⟩ := hl j y v' e1 e2 e3
        refine ⟨u', r', ?_⟩
        rcases q with q | ⟨k, c', e, z'⟩
        . exact .inl q
        . refine .inr ⟨k, c', e, z'.sameBut hs ?_⟩
          rintro rfl
          exact hj (Ub hN e1 (I.ok.inj _ _ _ e hc ▸ hi))
    . by_cases hcc : c' = c
      . subst hcc; exact ⟨_, hc'⟩
      . obtain ⟨w2, z2⟩ := I.cell y c' e
        exact ⟨w2, z2.sameBut hs hcc⟩
    . obtain ⟨e, n, ne, nf, d⟩ := I.pin p hp
      refine ⟨(hs.2 p.1 ?_).trans e, n, ne, nf, d⟩
      intro q
      rw [q, hoc] at e
      have q' : oc = p.2 := Option.some.inj e
      exact d w' (by rw [<- q']; exact hocd)
theorem Nt {M : Model} {A : Around} {E : Value -> Shared -> Prop} {i : Nat} {x : Str} {v : V} {u : Value} {Q : Unit -> Shared -> Prop} (I : Inv X pins σ H s) (hN : X.N.Nodup) (hi : X.N[i]? = some x) (hx : Loc X.env.scope x) (r : RelV v u)
    (h : ∀ s', Inv X pins (σ.set i (some v)) H s' -> Q () s') (hf : X.fn x = true \/ X.env.scope.names.lookup x = some .local := by first | exact .inl rfl | exact .inr rfl | assumption) : wpAny M A (storeName X.env x u) Q E s :=
  Abj I hN hi hx r (fun s' I' _ => h s' I') hf
theorem Inv.call' {s' : Shared} {ch : List Addr} (I : Inv X pins σ H s) (ho : s'.os = s.os) (u : Un (frs X.stack) ch H H' s.heap s'.heap) (hok : HOk X.prog X.w H' s'.heap) (hg : AllBare s'.gens)
    (hch : ∀ b ∈ ch, (b ∈ X.ex \/ X.s₀.heap.objs.size <= b) /\ b ≠ X.env.locals /\ (∀ x c, X.env.cells.lookup x = some c -> c ≠ b) /\ ∀ p ∈ X.pn ++ pins, p.1 ≠ b) : Inv X pins σ H' s' := by
  obtain ⟨h', g', d', t', o'⟩ := s'
  have e : o' = s.os := ho
  subst e
  exact I.call (g' := g') (t' := t') (d' := d') u hok hg hch
end
abbrev XK := Value -> Option Addr -> Hp -> Prop
abbrev St := List (Option V)
abbrev VK := V -> Hp -> Prop
abbrev TE := St -> Hp -> VK -> Prop
abbrev TT := St -> Hp -> (Bool -> Hp -> Prop) -> Prop
abbrev TA := St -> Hp -> (List V -> Hp -> Prop) -> Prop
structure Ends where
  nx : St -> Hp -> Prop
  rt : VK
  bk : St -> Hp -> Prop := fun _ _ => False
  ct : St -> Hp -> Prop := fun _ _ => False
abbrev TS := Ends -> St -> Hp -> Prop
def EP (X : Cx) (pins : List (Addr × Obj)) (σ : St) (Q : VK) (u : Value) (s' : Shared) : Prop := ∃ v H', Inv X pins σ H' s' /\ RelV v u /\ Q v H'
def TP (X : Cx) (pins : List (Addr × Obj)) (σ : St) (Q : Bool -> Hp -> Prop) (b : Bool) (s' : Shared) : Prop := ∃ H', Inv X pins σ H' s' /\ Q b H'
def AP (X : Cx) (pins : List (Addr × Obj)) (σ : St) (Q : List V -> Hp -> Prop) (us : List Value) (s' : Shared) : Prop := ∃ vs H', Inv X pins σ H' s' /\ Vals vs us /\ Q vs H'
def SP (X : Cx) (pins : List (Addr × Obj)) (D : Ends) (f : Flow) (s' : Shared) : Prop :=
  match f with
  | .next => ∃ σ' H', Inv X pins σ' H' s' /\ D.nx σ' H'
  | .brk => ∃ σ' H', Inv X pins σ' H' s' /\ D.bk σ' H'
  | .cont => ∃ σ' H', Inv X pins σ' H' s' /\ D.ct σ' H'
  | .ret u => ∃ v σ' H', Inv X pins σ' H' s' /\ RelV v u /\ D.rt v H'
def PE (X : Cx) (e : Expr) (t : TE) : Prop :=
  ∀ (pins : List (Addr × Obj)) (s : Shared) (σ : St) (H : Hp) (Q : VK), Inv X pins σ H s -> t σ H Q -> wpAny (model X.prog X.w) X.A (eval e X.env) (EP X pins σ Q) X.xe s
def PT (X : Cx) (e : Expr) (t : TT) : Prop :=
  ∀ (pins : List (Addr × Obj)) (s : Shared) (σ : St) (H : Hp) (Q : Bool -> Hp -> Prop), Inv X pins σ H s -> t σ H Q -> wpAny (model X.prog X.w) X.A (isTrue e X.env (eval e X.env)) (TP X pins σ Q) X.xe s
def PW (X : Cx) (e : Expr) (t : TT) : Prop :=
  ∀ (whole : Sem Value) (pins : List (Addr × Obj)) (s : Shared) (σ : St) (H : Hp) (Q : Bool -> Hp -> Prop), Inv X pins σ H s -> t σ H Q -> wpAny (model X.prog X.w) X.A (isTrue e X.env whole) (TP X pins σ Q) X.xe s
theorem PW.pt {X : Cx} {e : Expr} {t : TT} (h : PW X e t) : PT X e t := h _
def PA (X : Cx) (es : List Expr) (t : TA) : Prop :=
  ∀ (pos : Pos) (pins : List (Addr × Obj)) (s : Shared) (σ : St) (H : Hp) (Q : List V -> Hp -> Prop), Inv X pins σ H s -> t σ H Q -> wpAny (model X.prog X.w) X.A (spliced (backTo pos (starEach es X.env))) (AP X pins σ Q) X.xe s
def PS (X : Cx) (st : Stmt) (t : TS) : Prop :=
  ∀ (pins : List (Addr × Obj)) (s : Shared) (σ : St) (H : Hp) (D : Ends), Inv X pins σ H s -> t D σ H -> wpAny (model X.prog X.w) X.A (exec st X.env) (SP X pins D) X.xe s
def PSs (X : Cx) (st : List Stmt) (t : TS) : Prop :=
  ∀ (pins : List (Addr × Obj)) (s : Shared) (σ : St) (H : Hp) (D : Ends), Inv X pins σ H s -> t D σ H -> wpAny (model X.prog X.w) X.A (execs st X.env) (SP X pins D) X.xe s
theorem thn {α : Type} {t : Sem α} {Q Q' : α -> Shared -> Prop} {M : Model} {A : Around} {E : Value -> Shared -> Prop} {s : Shared} (h : wpAny M A t Q E s) (hQ : ∀ a s, Q a s -> Q' a s) : wpAny M A t Q' E s := wpAny_mono h hQ fun _ _ x => x
end L2
namespace L2
open PySem PySem.Spec PyProof.Rows
section
variable {X : Cx}
def Ael (i : Nat) : TE := fun σ H Q => ∃ v, σ[i]? = some (some v) /\ Q v H
def tC (v : V) : TE := fun _ H Q => Q v H
theorem Ahf {i : Nat} {x : Str} {pos : Pos} (hN : X.N[i]? = some x) (hv : Vis X.env.scope x) (hd : (x == ("__debug__" : Str)) = false := by decide) (hcd : (x == ("__classdict__" : Str)) = false := by decide) : PE X (.Name x pos) (Ael i) := by
  intro pins s σ H Q I h
  obtain ⟨v, e, h⟩ := h
  obtain ⟨m, hn, hl⟩ := I.loc
  obtain ⟨u, r, l⟩ := hl i x v hN e hv
  have fin : EP X pins σ Q u s := ⟨v, H, I, r, h⟩
  rcases l with ⟨hk, hm⟩ | ⟨hk, c, hc, hcell⟩
  . exact wpAny_Name (wpAny_loadName_local I.ok.kind hk hn hm fin) hd
  . rcases hk with hk | hk
    . exact wpAny_Name (wpAny_loadName_cell I.ok.kind hk hc hcell fin) hd
    . exact wpAny_Name (wpAny_loadName_free I.ok.kind hk hc hcell fin hcd) hd
theorem Ad {i j pos} : PE X (.Constant (.int i) j pos) (tC (.int i)) := fun _ _ _ H _ I h => wpAny_Constant_int ⟨.int i, H, I.tok _, ⟨_, rfl⟩, h⟩
theorem Li {b j pos} : PE X (.Constant (.bool b) j pos) (tC (.bl b)) := fun _ _ _ H _ I h => Constant_bool ⟨.bl b, H, I, rfl, h⟩
theorem Sy {j pos} : PE X (.Constant .none j pos) (tC .non) := fun _ _ _ H _ I h => Constant_none ⟨.non, H, I, rfl, h⟩
theorem Qj {x j pos} : PE X (.Constant (.str x) j pos) (tC (.str x)) := fun _ _ _ H _ I h => Calls.Constant_str ⟨.str x, H, I.tok _, ⟨_, rfl⟩, h⟩
def Gl (X : Cx) (x : Str) : Prop := X.env.kindOf x = some .globalImplicit
theorem Qu {E : Value -> Shared -> Prop} {pins : List (Addr × Obj)} {s : Shared} {σ : St} {H : Hp} {x : Str} {u : Value} {pos : Pos} {Q : Value -> Shared -> Prop} (I : Inv X pins σ H s) (hg : Gl X x) (hm : X.mg x = some u) (h : Q u s)
    (hd : (x == ("__debug__" : Str)) = false := by decide) : wpAny (model X.prog X.w) X.A (eval (.Name x pos) X.env) Q E s :=
  Calls.Name_function_global I.ok.kind hg (Calls.loadGlobal_global (by rw [I.ok.glob]; exact I.mod.glob.keeps I.bk) hm h) hd
theorem Ow {E : Value -> Shared -> Prop} {pins : List (Addr × Obj)} {s : Shared} {σ : St} {H : Hp} {x : Str} {u : Value} {pos : Pos} {Q : Value -> Shared -> Prop} (I : Inv X pins σ H s) (hg : Gl X x) (hm : X.mg x = none) (hv : bootBuiltins x = some u) (h : Q u s)
    (hn : x ≠ "__name__" := by decide) (hd : (x == ("__debug__" : Str)) = false := by decide) : wpAny (model X.prog X.w) X.A (eval (.Name x pos) X.env) Q E s := by
  obtain ⟨mb, h1, h2⟩ := I.mod.blt
  exact Calls.Name_function_global I.ok.kind hg (Calls.loadGlobal_builtin (by rw [I.ok.glob]; exact I.mod.glob.keeps I.bk) hm (by rw [I.ok.blt]; exact h1.keeps I.bk) ((h2 x hn).trans hv) h) hd
theorem Jy {x : Str} {v : V} {u : Value} {pos : Pos} (hg : Gl X x) (hm : X.mg x = some u) (r : RelV v u) (hd : (x == ("__debug__" : Str)) = false := by decide) : PE X (.Name x pos) (tC v) :=
  fun _ _ _ H _ I h => Qu I hg hm ⟨v, H, I, r, h⟩ hd
theorem Iv {x : Str} {v : V} {u : Value} {pos : Pos} (hg : Gl X x) (hm : X.mg x = none) (hv : bootBuiltins x = some u) (r : RelV v u) (hn : x ≠ "__name__" := by decide) (hd : (x == ("__debug__" : Str)) = false := by decide) : PE X (.Name x pos) (tC v) :=
  fun _ _ _ H _ I h => Ow I hg hm hv ⟨v, H, I, r, h⟩ hn hd
variable {a b : Expr} {ta tb : TE} {pos : Pos}
def tB (t : TE) : TT := fun σ H Q => t σ H fun x H1 => ∃ c, x = .bl c /\ Q c H1
theorem Il {e : Expr} {t : TE} (h : PE X e t) (he : ∀ whole, isTrue e X.env whole = (do let v <- whole; standAt e.pos; holding [v] (truthy v)) := by intro _; rfl) : PT X e (tB t) := by
  intro pins s σ H Q I hw
  refine isTrue_plain (thn (h pins s σ H _ I hw) fun v s1 ⟨x, H1, I1, r1, q1⟩ => ?_) (he _)
  obtain ⟨d, rfl, q⟩ := q1
  cases r1
  exact wpAny_truthy_bool ⟨H1, I1, q⟩
variable {tA tB' : TT} {rest : List Expr}
def Ajc (t u : TT) : TT := fun σ H Q => t σ H fun c H1 => if c = true then u σ H1 Q else Q false H1
def tOr (t u : TT) : TT := fun σ H Q => t σ H fun c H1 => if c = true then Q true H1 else u σ H1 Q
def Aj6 (t : TT) : TT := fun σ H Q => t σ H fun c H1 => Q (!c) H1
theorem Px (ha : PT X a tA) : PW X (.BoolOp .And [a] pos) tA := by
  intro wh pins s σ H Q I h
  refine isTrue_and (thn (ha pins s σ H Q I h) fun c s1 e => ?_)
  cases c with
  | true => exact isTrue_and_nil e
  | false => exact e
theorem J1 (ha : PT X a tA) : PW X (.BoolOp .Or [a] pos) tA := by
  intro wh pins s σ H Q I h
  refine isTrue_or (thn (ha pins s σ H Q I h) fun c s1 e => ?_)
  cases c with
  | false => exact isTrue_or_nil e
  | true => exact e
theorem Vg (ha : PT X a tA) (hb : PW X (.BoolOp .And (b :: rest) pos) tB') : PW X (.BoolOp .And (a :: b :: rest) pos) (Ajc tA tB') := by
  intro wh pins s σ H Q I h
  refine isTrue_and (thn (ha pins s σ H _ I h) fun c s1 ⟨H1, I1, q1⟩ => ?_)
  cases c with
  | true => exact hb wh pins s1 σ H1 Q I1 q1
  | false => exact ⟨H1, I1, q1⟩
theorem Ms (ha : PT X a tA) (hb : PW X (.BoolOp .Or (b :: rest) pos) tB') : PW X (.BoolOp .Or (a :: b :: rest) pos) (tOr tA tB') := by
  intro wh pins s σ H Q I h
  refine isTrue_or (thn (ha pins s σ H _ I h) fun c s1 ⟨H1, I1, q1⟩ => ?_)
  cases c with
  | true => exact ⟨H1, I1, q1⟩
  | false => exact hb wh pins s1 σ H1 Q I1 q1
theorem J2 (ha : PT X a tA) : PT X (.UnaryOp .Not a pos) (Aj6 tA) := by
  intro pins s σ H Q I h
  exact isTrue_not (ha pins s σ H (fun c H1 => Q (!c) H1) I h)
def Ag5 (ta tb : TE) : TE := fun σ H Q => ta σ H fun x H1 => ∃ c, x = .bl c /\ if c = true then tb σ H1 Q else Q (.bl false) H1
def Aju (ta tb : TE) : TE := fun σ H Q => ta σ H fun x H1 => ∃ c, x = .bl c /\ if c = true then Q (.bl true) H1 else tb σ H1 Q
def Ag4 (ta : TE) : TE := fun σ H Q => ta σ H fun x H1 => ∃ c, x = .bl c /\ Q (.bl (!c)) H1
theorem Ss {op} {t : TE} (h : PE X a t) : PE X (.BoolOp op [a] pos) t := fun pins s σ H Q I hw => BoolOp_one (h pins s σ H Q I hw)
theorem Qo (ha : PE X a ta) (hb : PE X (.BoolOp .And (b :: rest) pos) tb) : PE X (.BoolOp .And (a :: b :: rest) pos) (Ag5 ta tb) := by
  intro pins s σ H Q I h
  refine BoolOp_and (thn (ha pins s σ H _ I h) fun v s1 ⟨x, H1, I1, r1, q1⟩ => ?_)
  obtain ⟨c, rfl, q1⟩ := q1
  cases r1
  refine wpAny_truthy_bool ?_
  cases c with
  | true => exact hb pins s1 σ H1 Q I1 q1
  | false => exact ⟨.bl false, H1, I1, rfl, q1⟩
theorem Af7 (ha : PE X a ta) (hb : PE X (.BoolOp .Or (b :: rest) pos) tb) : PE X (.BoolOp .Or (a :: b :: rest) pos) (Aju ta tb) := by
  intro pins s σ H Q I h
  refine BoolOp_or (thn (ha pins s σ H _ I h) fun v s1 ⟨x, H1, I1, r1, q1⟩ => ?_)
  obtain ⟨c, rfl, q1⟩ := q1
  cases r1
  refine wpAny_truthy_bool ?_
  cases c with
  | false => exact hb pins s1 σ H1 Q I1 q1
  | true => exact ⟨.bl true, H1, I1, rfl, q1⟩
theorem Vj (ha : PE X a ta) : PE X (.UnaryOp .Not a pos) (Ag4 ta) := by
  intro pins s σ H Q I h
  refine UnaryOp_ (thn (ha pins s σ H _ I h) fun v s1 ⟨x, H1, I1, r1, q1⟩ => ?_)
  obtain ⟨c, rfl, q1⟩ := q1
  cases r1
  exact not_of (wpAny_truthy_bool ⟨.bl (!c), H1, I1, rfl, q1⟩)
def tIf (t : TT) (ta tb : TE) : TE := fun σ H Q => t σ H fun c H1 => if c = true then ta σ H1 Q else tb σ H1 Q
theorem Nm {c : Expr} (hc : PT X c tA) (ha : PE X a ta) (hb : PE X b tb) : PE X (.IfExp c a b pos) (tIf tA ta tb) := by
  intro pins s σ H Q I h
  refine wpAny_IfExp (thn (hc pins s σ H _ I h) fun d s1 ⟨H1, I1, q1⟩ => ?_)
  cases d with
  | true => exact ha pins s1 σ H1 Q I1 q1
  | false => exact hb pins s1 σ H1 Q I1 q1
end
end L2
namespace L2
open PySem PySem.Spec PyProof.Rows
def SqL (K : PySem.W.Frag) (H : Hp) (a : Addr) (xs : List V) : Prop :=
  Rd H a (.lst xs) \/
    ∃ (o : Obj) (its : Array Value) (n : Nat), K.lookup a = some o /\ o.cls = .type "list" /\ o.dict = none /\ o.data = .seq its n /\ its.size <= sizeLine /\ Vals xs its.toList
def SqT (K : PySem.W.Frag) (H : Hp) (a : Addr) (xs : List V) : Prop :=
  Rd H a (.tup xs) \/
    ∃ (o : Obj) (its : Array Value) (n : Nat), K.lookup a = some o /\ o.cls = .type "tuple" /\ o.data = .seq its n /\ its.size <= sizeLine /\ Vals xs its.toList
def Ak6 : Value -> Option V
  | .none => some .non
  | .bool b => some (.bl b)
  | .int i _ => some (.int i)
  | .str x _ => some (.str x)
  | .bytes b _ => some (.byt b)
  | .float b _ => some (.flt b)
  | .ref a => some (.ref a)
  | .type n => some (.ty n)
  | _ => none
theorem RelV.abs {x : V} {u : Value} (r : RelV x u) : Ak6 u = some x := by
  cases x with
  | non => cases r; rfl
  | bl _ => cases r; rfl
  | int _ => obtain ⟨t, rfl⟩ := r; rfl
  | str _ => obtain ⟨t, rfl⟩ := r; rfl
  | byt _ => obtain ⟨t, rfl⟩ := r; rfl
  | flt _ => obtain ⟨t, rfl⟩ := r; rfl
  | ref _ => cases r; rfl
  | ty _ => cases r; rfl
theorem RelV.inj {x y : V} {u : Value} (r : RelV x u) (q : RelV y u) : x = y := Option.some.inj (r.abs.symm.trans q.abs)
theorem Vals.inj : ∀ {xs ys : List V} {us : List Value}, Vals xs us -> Vals ys us -> xs = ys
  | _, _, _, .nil, .nil => rfl
  | _, _, _, .cons r t, .cons r' t' => by rw [r.inj r', Vals.inj t t']
section
variable {X : Cx} {pins : List (Addr × Obj)} {σ : St} {H : Hp} {s : Shared} {a : Addr} {xs ys : List V}
theorem SqL.of {K : PySem.W.Frag} (h : H a = some (.lst xs)) : SqL K H a xs := .inl (.inl h)
theorem SqT.of {K : PySem.W.Frag} (h : H a = some (.tup xs)) : SqT K H a xs := .inl (.inl h)
theorem Inv.list (I : Inv X pins σ H s) (h : SqL X.K H a xs) : ∃ its : List Value, Vals xs its /\ PlainL s.heap a its.toArray /\ xs.length <= sizeLine := by
  rcases h with h | ⟨o, its, n, hk, hc, hd, hs, hz, r⟩
  . obtain ⟨z, its, n, r, e⟩ := h.ok I.hok
    exact ⟨its, r, ⟨_, n, e, rfl, rfl, rfl⟩, z⟩
  . refine ⟨its.toList, r, ⟨o, n, I.kIn a o hk, hc, hd, by simpa using hs⟩, ?_⟩
    have e := r.length
    simp only [Array.length_toList] at e
    omega
theorem Inv.tuple (I : Inv X pins σ H s) (h : SqT X.K H a xs) : ∃ its : List Value, Vals xs its /\ IsTup s.heap a its.toArray /\ xs.length <= sizeLine := by
  rcases h with h | ⟨o, its, n, hk, hc, hs, hz, r⟩
  . obtain ⟨z, its, r, p⟩ := h.ok I.hok
    exact ⟨its, r, p, z⟩
  . refine ⟨its.toList, r, ⟨o, I.kIn a o hk, hc, n, by simpa using hs⟩, ?_⟩
    have e := r.length
    simp only [Array.length_toList] at e
    omega
theorem Inv.list_inj (I : Inv X pins σ H s) (h : SqL X.K H a xs) (h' : SqL X.K H a ys) : xs = ys := by
  obtain ⟨its, r, ⟨o, n, e, _, _, d⟩, _⟩ := I.list h
  obtain ⟨its', r', ⟨o', n', e', _, _, d'⟩, _⟩ := I.list h'
  rw [e] at e'; cases e'
  rw [d] at d'
  injection d' with d1 _
  have : its = its' := by simpa using congrArg Array.toList d1
  subst this
  exact r.inj r'
theorem Inv.tuple_inj (I : Inv X pins σ H s) (h : SqT X.K H a xs) (h' : SqT X.K H a ys) : xs = ys := by
  obtain ⟨its, r, ⟨o, e, _, n, d⟩, _⟩ := I.tuple h
  obtain ⟨its', r', ⟨o', e', _, n', d'⟩, _⟩ := I.tuple h'
  rw [e] at e'; cases e'
  rw [d] at d'
  injection d' with d1 _
  have : its = its' := by simpa using congrArg Array.toList d1
  subst this
  exact r.inj r'
end
abbrev Cx.wish (X : Cx) (E : Value -> Shared -> Prop) : Cx := { X with xe := E }
abbrev Cx.nox (X : Cx) : Cx := X.wish fun _ _ => False
theorem Cx.Ok.wish {X : Cx} (ok : X.Ok) (E : Value -> Shared -> Prop) : (X.wish E).Ok :=
  ⟨ok.mod, ok.kind, ok.glob, ok.blt, ok.above, ok.inj, ok.has, ok.cab, ok.hd, ok.frames, ok.stk, ok.exf, ok.bs, ok.bsz, ok.noex, ok.exfs, ok.funs, ok.frf⟩
theorem Cx.Ok.unwish {X : Cx} {E : Value -> Shared -> Prop} (ok : (X.wish E).Ok) : X.Ok :=
  ⟨ok.mod, ok.kind, ok.glob, ok.blt, ok.above, ok.inj, ok.has, ok.cab, ok.hd, ok.frames, ok.stk, ok.exf, ok.bs, ok.bsz, ok.noex, ok.exfs, ok.funs, ok.frf⟩
section
variable {X : Cx} {pins : List (Addr × Obj)} {σ : St} {H : Hp} {s : Shared} {E : Value -> Shared -> Prop}
theorem Inv.wish (I : Inv X pins σ H s) (E : Value -> Shared -> Prop) : Inv (X.wish E) pins σ H s := ⟨I.ok.wish E, I.os, I.bare, I.base, I.loc, I.cell, I.free, I.freeC, I.pin, I.hok, I.len⟩
theorem Inv.unwish (I : Inv (X.wish E) pins σ H s) : Inv X pins σ H s := ⟨I.ok.unwish, I.os, I.bare, I.base, I.loc, I.cell, I.free, I.freeC, I.pin, I.hok, I.len⟩
theorem SP.unwish {D : Ends} {f : Flow} {s' : Shared} (h : SP (X.wish E) pins D f s') : SP X pins D f s' := by
  cases f with
  | next => obtain ⟨σ', H', I, q⟩ := h; exact ⟨σ', H', I.unwish, q⟩
  | brk => obtain ⟨σ', H', I, q⟩ := h; exact ⟨σ', H', I.unwish, q⟩
  | cont => obtain ⟨σ', H', I, q⟩ := h; exact ⟨σ', H', I.unwish, q⟩
  | ret u => obtain ⟨v, σ', H', I, r, q⟩ := h; exact ⟨v, σ', H', I.unwish, r, q⟩
theorem PE.nox {e : Expr} {t : TE} (h : PE X.nox e t) : PE X e t := fun pins s σ H Q I hw =>
  wpAny_mono (h pins s σ H Q (I.wish _) hw) (fun _ _ ⟨v, H', I', r, q⟩ => ⟨v, H', I'.unwish, r, q⟩) fun _ _ z => False.elim z
theorem PT.nox {e : Expr} {t : TT} (h : PT X.nox e t) : PT X e t := fun pins s σ H Q I hw =>
  wpAny_mono (h pins s σ H Q (I.wish _) hw) (fun _ _ ⟨H', I', q⟩ => ⟨H', I'.unwish, q⟩) fun _ _ z => False.elim z
theorem PSs.nox {st : List Stmt} {t : TS} (h : PSs X.nox st t) : PSs X st t := fun pins s σ H D I hw =>
  wpAny_mono (h pins s σ H D (I.wish _) hw) (fun _ _ q => q.unwish) fun _ _ z => False.elim z
end
section
variable {X : Cx} {st : Stmt} {rest : List Stmt} {t u : TS} {e : Expr} {te : TE} {pos : Pos}
def Agk : TS := fun D σ H => D.nx σ H
def Aiy (t u : TS) : TS := fun D σ H => t { D with nx := u D } σ H
theorem Bb : PSs X [] Agk := fun _ _ σ H _ I h => wpAny_execs_nil ⟨σ, H, I, h⟩
theorem Ac (h1 : PS X st t) (h2 : PSs X rest u) : PSs X (st :: rest) (Aiy t u) := by
  intro pins s σ H D I h
  refine wpAny_execs_cons (thn (h1 pins s σ H { D with nx := u D } I h) fun f s1 q => ?_)
  cases f with
  | next =>
    obtain ⟨σ', H', I', q⟩ := q
    exact h2 pins s1 σ' H' D I' q
  | ret v => exact q
  | brk => exact q
  | cont => exact q
theorem Ae (h1 : PS X st t) : PSs X [st] t := by
  intro pins s σ H D I h
  refine wpAny_execs_cons (thn (h1 pins s σ H D I h) fun f s1 q => ?_)
  cases f with
  | next => exact wpAny_execs_nil q
  | ret v => exact q
  | brk => exact q
  | cont => exact q
theorem Inv.quiet {pins : List (Addr × Obj)} {σ : St} {H : Hp} {s : Shared} (I : Inv X pins σ H s) : interactive X.env = false := by simp [interactive, I.ok.kind]
def Ae9 (te : TE) : TS := fun D σ H => te σ H fun _ H1 => D.nx σ H1
theorem Oc (he : PE X e te) (hs : swapsWith e none pos.line X.env = pure false := by rfl) : PS X (.Expr e pos) (Ae9 te) := by
  intro pins s σ H D I h
  exact wpAny_Expr_any (thn (he pins s σ H _ I h) fun v s1 ⟨x, H1, I1, r1, q1⟩ => ⟨σ, H1, I1, q1⟩) I.quiet hs
def Aj3 (te : TE) : TS := fun D σ H => te σ H D.rt
theorem Al (he : PE X e te) : PS X (.Return (some e) pos) (Aj3 te) := by
  intro pins s σ H D I h
  exact wpAny_Return_some (thn (he pins s σ H _ I h) fun v s1 ⟨x, H1, I1, r1, q1⟩ => ⟨x, σ, H1, I1, r1, q1⟩)
def Ai9 (c : TT) (t u : TS) : TS := fun D σ H => c σ H fun b H1 => if b = true then t D σ H1 else u D σ H1
theorem Cy {c : Expr} {a b : List Stmt} {tc : TT} (hc : PT X c tc) (ha : PSs X a t) (hb : PSs X b u) : PS X (.If c a b pos) (Ai9 tc t u) := by
  intro pins s σ H D I h
  refine wpAny_If (thn (hc pins s σ H _ I h) fun d s1 ⟨H1, I1, q1⟩ => ?_)
  cases d with
  | true => exact ha pins s1 σ H1 D I1 q1
  | false => exact hb pins s1 σ H1 D I1 q1
def Aeo : TS := fun _ _ _ => False
theorem M5 : PS X st Aeo := fun _ _ _ _ _ _ h => h.elim
end
abbrev TG := V -> St -> Hp -> (St -> Hp -> Prop) -> Prop
abbrev TGs := List V -> St -> Hp -> (St -> Hp -> Prop) -> Prop
def PG (X : Cx) (target : Expr) (t : TG) : Prop :=
  ∀ (pins : List (Addr × Obj)) (s : Shared) (σ : St) (H : Hp) (v : V) (u : Value) (Q : St -> Hp -> Prop), Inv X pins σ H s -> RelV v u -> t v σ H Q ->
    wpAny (model X.prog X.w) X.A (assign target X.env u) (fun _ s' => ∃ σ' H', Inv X pins σ' H' s' /\ Q σ' H') X.xe s
def PGs (X : Cx) (ts : List Expr) (t : TGs) : Prop :=
  ∀ (pins : List (Addr × Obj)) (s : Shared) (σ : St) (H : Hp) (vs : List V) (us : List Value) (Q : St -> Hp -> Prop), Inv X pins σ H s -> Vals vs us -> t vs σ H Q ->
    wpAny (model X.prog X.w) X.A (assignInOrder ((assignEach ts X.env).map (·.2)) us) (fun _ s' => ∃ σ' H', Inv X pins σ' H' s' /\ Q σ' H') X.xe s
abbrev Ait := V -> V -> V -> Hp -> (Hp -> Prop) -> Prop
def Ajo (X : Cx) (t : Ait) : Prop :=
  ∀ (pins : List (Addr × Obj)) (s : Shared) (σ : St) (H : Hp) (o i v : V) (ov iv u : Value) (Q : Hp -> Prop), Inv X pins σ H s -> RelV o ov -> RelV i iv -> RelV v u -> t o i v H Q ->
    wpAny (model X.prog X.w) X.A (setItem ov iv u) (fun _ s' => ∃ H', Inv X pins σ H' s' /\ Q H') X.xe s
section
variable {X : Cx} {pos : Pos}
def Wx (i : Nat) : TG := fun v σ H Q => Q (σ.set i (some v)) H
theorem Ax {i : Nat} {x : Str} (hN : X.N.Nodup) (hi : X.N[i]? = some x) (hx : Loc X.env.scope x) (hf : X.fn x = true \/ X.env.scope.names.lookup x = some .local := by first | exact .inl rfl | exact .inr rfl | assumption) : PG X (.Name x pos) (Wx i) := by
  intro pins s σ H v u Q I r h
  exact wpAny_assign_Name (Nt I hN hi hx r (fun s' I' => ⟨_, H, I', h⟩) hf)
def Ajl : TGs := fun vs σ H Q => vs = [] /\ Q σ H
def Ac1 (t : TG) (u : TGs) : TGs := fun vs σ H Q => ∃ v r, vs = v :: r /\ t v σ H fun σ' H' => u r σ' H' Q
theorem Ek : PGs X [] Ajl := by
  intro pins s σ H vs us Q I r h
  obtain ⟨e, h⟩ := h
  subst e
  cases r
  exact assignInOrder_nil ⟨σ, H, I, h⟩
theorem Bl {e : Expr} {es : List Expr} {t : TG} {u : TGs} (h1 : PG X e t) (h2 : PGs X es u)
    (hs : (assignEach (e :: es) X.env).map (·.2) = assign e X.env :: (assignEach es X.env).map (·.2) := by rfl) : PGs X (e :: es) (Ac1 t u) := by
  intro pins s σ H vs us Q I r h
  obtain ⟨v, vr, e1, h⟩ := h
  subst e1
  cases r with
  | cons r rr =>
    rw [hs]
    refine assignInOrder_cons (thn (h1 pins s σ H _ _ _ I r h) fun _ s1 ⟨σ1, H1, I1, q1⟩ => ?_)
    exact h2 pins s1 σ1 H1 _ _ Q I1 rr q1
def Ajr (K : PySem.W.Frag) (n : Nat) (t : TGs) : TG := fun v σ H Q => ∃ a xs, v = .ref a /\ SqT K H a xs /\ xs.length = n /\ t xs σ H Q
theorem Fz {es : List Expr} {k : Nat} {t : TGs} {n : Nat} (hc : X.calm = true) (h : PGs X es t)
    (hn : (assignEach es X.env).length = n := by rfl) (hst : (assignEach es X.env).findIdx? (·.1) = none := by rfl) : PG X (.Tuple es k pos) (Ajr X.K n t) := by
  intro pins s σ H v u Q I r hw
  obtain ⟨a, xs, e1, hq, hl, hw⟩ := hw
  subst e1
  cases r
  obtain ⟨its, rv, ht, hz⟩ := I.tuple hq
  refine assign_Tuple_tuple (I.ok.hd hc) ht (by simp [hn, <- hl, rv.length]) hst fun h' hx => ?_
  have I1 : Inv X pins σ H { s with heap := h' } := I.kept (t' := s.toks) fun b o e => hx b o (Nat.ne_of_lt (Heap.lt_size e)) e
  exact h pins _ σ H xs _ Q I1 (by simpa using rv) hw
def Ai4 (to ti : TE) (t : Ait) : TG := fun v σ H Q => to σ H fun o H1 => ti σ H1 fun i H2 => t o i v H2 fun H3 => Q σ H3
theorem Lz {o i : Expr} {to ti : TE} {t : Ait} (ho : PE X o to) (hi : PE X i ti) (hs : Ajo X t)
    (ha : ∀ v, assign (.Subscript o i pos) X.env v = (do
      let ov <- holding [v] (eval o X.env)
      let iv <- holding [v, ov] (eval i X.env)
      standAt pos
      holding [v, ov, iv] (setItem ov iv v)
      release [v, ov, iv] []) := by intro _; rfl) : PG X (.Subscript o i pos) (Ai4 to ti t) := by
  intro pins s σ H v u Q I r h
  rw [ha]
  refine wpAny_bind (wpAny_holding (thn (ho pins s σ H _ I h) fun ov s1 ⟨x, H1, I1, r1, q1⟩ => ?_))
  refine wpAny_bind (wpAny_holding (thn (hi pins s1 σ H1 _ I1 q1) fun iv s2 ⟨y, H2, I2, r2, q2⟩ => ?_))
  refine wpAny_bind (wpAny_standAt (wpAny_bind (wpAny_holding (thn (hs pins s2 σ H2 x y v ov iv u _ I2 r1 r2 r q2) fun _ s3 ⟨H3, I3, q3⟩ => ?_))))
  exact wpAny_release ⟨σ, H3, I3, q3⟩
def Agb (te : TE) (g : TG) : TS := fun D σ H => te σ H fun x H1 => g x σ H1 D.nx
theorem Es {tg e : Expr} {te : TE} {g : TG} (he : PE X e te) (hg : PG X tg g) (hs : swapsWithSole [tg] e pos.line X.env = pure false := by rfl) (hw : swappedStores [tg] e X.env = pure none := by rfl)
    (h1 : (assignEach [tg] X.env).map (·.2) = [assign tg X.env] := by rfl) : PS X (.Assign [tg] e pos) (Agb te g) := by
  intro pins s σ H D I h
  refine wpAny_Assign_stores (thn (he pins s σ H _ I h) fun v s1 ⟨x, H1, I1, r1, q1⟩ => ?_) hs hw
  rw [h1]
  exact thn (hg pins s1 σ H1 x v _ I1 r1 q1) fun _ s2 q => q
theorem Ah {i : Nat} {x : Str} {e : Expr} {te : TE} {pos' : Pos} (hN : X.N.Nodup) (hi : X.N[i]? = some x) (hx : Loc X.env.scope x) (he : PE X e te) (hs : swapsWith e (some (.Name x pos')) pos.line X.env = pure false := by rfl) (hf : X.fn x = true \/ X.env.scope.names.lookup x = some .local := by first | exact .inl rfl | exact .inr rfl | assumption) :
    PS X (.Assign [.Name x pos'] e pos) (Agb te (Wx i)) := by
  intro pins s σ H D I h
  refine wpAny_Assign_Name (thn (he pins s σ H _ I h) fun v s1 ⟨y, H1, I1, r1, q1⟩ => ?_) hs
  exact Nt I1 hN hi hx r1 (fun s2 I2 => ⟨_, H1, I2, q1⟩) hf
def Ai7 (i j : Nat) (ta : TA) : TS := fun D σ H => ta σ H fun vs H1 => ∃ v w, vs = [v, w] /\ D.nx ((σ.set i (some v)).set j (some w)) H1
theorem Nf {i j : Nat} {x y : Str} {a b : Expr} {ta : TA} {px py pt : Pos} {kt k2 pt2} (hc : X.calm = true) (hN : X.N.Nodup) (hi : X.N[i]? = some x) (hj : X.N[j]? = some y) (hij : i ≠ j)
    (hx : X.env.scope.names.lookup x = some .local) (hy : X.env.scope.names.lookup y = some .local) (ha : PA X [a, b] ta)
    (hw : swappedStores [.Tuple [.Name x px, .Name y py] kt pt] (.Tuple [a, b] k2 pt2) X.env = pure (some [x, y]))
    (hs : swapsWithSole [.Tuple [.Name x px, .Name y py] kt pt] (.Tuple [a, b] k2 pt2) pos.line X.env = pure false := by rfl) :
    PS X (.Assign [.Tuple [.Name x px, .Name y py] kt pt] (.Tuple [a, b] k2 pt2) pos) (Ai7 i j ta) := by
  intro pins s σ H D I h
  rw [exec_Assign_arm]
  refine wpAny_bind (wpAny_standAt ?_)
  rw [hs]
  refine wpAny_bind (wpAny_pure ?_)
  rw [if_neg (by decide)]
  refine wpAny_bind (Tuple_ (thn (ha _ pins s σ H _ I h) fun us s1 ⟨vs, H1, I1, r1, q1⟩ => ?_))
  obtain ⟨v, w, e1, q1⟩ := q1
  subst e1
  obtain ⟨u1, u2, rfl, rv, rw'⟩ : ∃ u1 u2, us = [u1, u2] /\ RelV v u1 /\ RelV w u2 := by
    cases r1 with
    | cons p q =>
      cases q with
      | cons p' q' =>
        cases q'
        exact ⟨_, _, rfl, p, p'⟩
  refine wpAny_newObj_type ?_ (by show 2 <= sizeLine; decide)
  have I2 : Inv X pins σ H1 { s1 with heap := s1.heap.push { cls := .type "tuple", data := .seq [u1, u2].toArray } } := I1.kept (t' := s1.toks) fun b o e => Heap.get?_push_of_some _ e
  rw [hw]
  refine wpAny_bind (wpAny_pure ?_)
  show wpAny (model X.prog X.w) X.A (do rule "assign.swapped-stores"; let items <- unpackItems (.ref s1.heap.objs.size) 2 none; assignInOrder [fun v => bindName X.env y v, fun v => bindName X.env x v] items.reverse; pure Flow.next) _ _ _
  refine wpAny_bind (wpAny_rule (wpAny_bind (unpackItems_tuple (items := #[u1, u2]) (I.ok.hd hc) (IsTup.new s1.heap _) fun h' hx' => ?_)))
  have I3 := I2.kept (h' := h') (t' := s1.toks) fun b o e => hx' b o (Nat.ne_of_lt (Heap.lt_size e)) e
  show wpAny _ _ (assignInOrder [fun v => bindName X.env y v, fun v => bindName X.env x v] [u2, u1] >>= fun _ => pure Flow.next) _ _ _
  refine wpAny_bind (assignInOrder_cons (wpAny_bindName (Nt I3 hN hj (.inl hy) rw' (fun s2 I4 => ?_) (.inr hy))))
  refine assignInOrder_cons (wpAny_bindName (Nt I4 hN hi (.inl hx) rv (fun s3 I5 => assignInOrder_nil (wpAny_pure ?_)) (.inr hx)))
  rw [List.set_comm _ _ (Ne.symm hij)] at I5
  exact ⟨_, H1, I5, q1⟩
end
section
variable {X : Cx} {pos : Pos}
def Uz (c : TT) (tb : TS) : TS := fun D σ H => ∃ W : Nat -> St -> Hp -> Prop, (∃ m, W m σ H) /\ ∀ m σ H, W m σ H ->
  c σ H fun b H1 => if b = true then ∃ N : St -> Hp -> Prop, (∀ σ' H', N σ' H' -> ∃ m', m' < m /\ W m' σ' H') /\ tb { D with nx := N, ct := N, bk := D.nx } σ H1 else D.nx σ H1
theorem Hg {c : Expr} {body : List Stmt} {tc : TT} {tb : TS} (hp : PassesOwn (model X.prog X.w) X.A X.env X.xe) (hc : PT X c tc) (hb : PSs X body tb) : PS X (.While c body [] pos) (Uz tc tb) := by
  intro pins s σ H D I h
  obtain ⟨W, ⟨m0, w0⟩, turn⟩ := h
  refine wpAny_While (codeAny_whileLoop (fun n s' => ∃ σ' H', Inv X pins σ' H' s' /\ W n σ' H') ?_ m0 ⟨σ, H, I, w0⟩)
  rintro n s1 ⟨σ1, H1, I1, w1⟩
  refine wpAny_passesOwn hp (thn (hc pins s1 σ1 H1 _ I1 (turn n σ1 H1 w1)) fun b s2 ⟨H2, I2, q2⟩ => ?_)
  cases b with
  | true =>
    obtain ⟨N, hN, q2⟩ := q2
    rw [if_pos rfl]
    refine wpAny_passesOwn hp (thn (hb pins s2 σ1 H2 _ I2 q2) fun f s3 q3 => ?_)
    cases f with
    | next =>
      obtain ⟨σ3, H3, I3, n3⟩ := q3
      obtain ⟨m', hm, w3⟩ := hN σ3 H3 n3
      exact ⟨m', hm, σ3, H3, I3, w3⟩
    | cont =>
      obtain ⟨σ3, H3, I3, n3⟩ := q3
      obtain ⟨m', hm, w3⟩ := hN σ3 H3 n3
      exact ⟨m', hm, σ3, H3, I3, w3⟩
    | brk => exact q3
    | ret v => exact q3
  | false =>
    rw [if_neg Bool.false_ne_true]
    exact wpAny_execs_nil ⟨σ1, H2, I2, q2⟩
end
structure It where
  go : Nat -> Hp -> Prop
  yld : Nat -> Hp -> V -> Hp -> Prop
  stop : Nat -> Hp -> Prop
def Vt (X : Cx) (pins : List (Addr × Obj)) (H : Hp) (b : Addr) : Prop :=
  H b = none /\ b ≠ X.env.locals /\ b ∉ X.fs /\ (b ∈ X.ex \/ X.s₀.heap.objs.size <= b) /\ (∀ x c, X.env.cells.lookup x = some c -> c ≠ b) /\ ∀ p ∈ X.pn ++ pins, p.1 ≠ b
theorem Inv.fpOk {X : Cx} {pins : List (Addr × Obj)} {σ : St} {H H' : Hp} {s : Shared} {b : Addr} (I : Inv X pins σ H s) (hb : s.heap.objs.size <= b) (hn : H' b = none) : Vt X pins H' b := by
  refine ⟨hn, Nat.ne_of_gt (Nat.lt_of_lt_of_le I.lt hb), I.nofs hb, .inr (Nat.le_trans I.sz hb), fun x c e z => ?_, fun p hp z => ?_⟩
  . obtain ⟨v, q⟩ := I.cell x c e
    exact absurd (Nat.lt_of_lt_of_le q.lt (by rw [z]; exact hb)) (Nat.lt_irrefl _)
  . exact absurd (Nat.lt_of_lt_of_le (Heap.lt_size (I.pin p hp).1) (by rw [z]; exact hb)) (Nat.lt_irrefl _)
structure Turn (P : Program) (w : World) (K : PySem.W.Frag) (tg : Expr) (J : It) (fp : List Addr) (it : Addr) (tn : Nat -> Heap -> Prop) : Prop where
  mem : it ∈ fp
  obj : ∀ i h, tn i h -> ∀ b ∈ fp, ∃ o, h.get? b = some o /\ ∀ v, o.data ≠ .cell v
  keep : ∀ i h h', tn i h -> (∀ b ∈ fp, ∀ o, h.get? b = some o -> h'.get? b = some o) -> tn i h'
  item : ∀ (X : Cx), X.prog = P -> X.w = w -> X.K = K -> X.calm = true -> ∀ (i : Nat) (pins : List (Addr × Obj)) (s : Shared) (σ : St) (H : Hp) (E : Value -> Shared -> Prop), Inv X pins σ H s -> (∀ b ∈ fp, Vt X pins H b) -> tn i s.heap -> J.go i H ->
    wpAny (model P w) X.A (pyNext (.ref it)) (fun r s1 => ∃ u, r = some u /\
      wpAny (model P w) X.A (letOwnedTupleGo tg (.ref it) u) (fun _ s2 => ∃ x H', Inv X pins σ H' s2 /\ RelV x u /\ J.yld i H x H' /\ tn (i + 1) s2.heap /\ ∀ b ∈ fp, H' b = none) E s1) E s
  done : ∀ (X : Cx), X.prog = P -> X.w = w -> X.K = K -> X.calm = true -> ∀ (i : Nat) (pins : List (Addr × Obj)) (s : Shared) (σ : St) (H : Hp) (E : Value -> Shared -> Prop), Inv X pins σ H s -> (∀ b ∈ fp, Vt X pins H b) -> tn i s.heap -> J.stop i H ->
    wpAny (model P w) X.A (pyNext (.ref it)) (fun r s1 => r = none /\ Inv X pins σ H s1) E s
  self : ∀ (A : Around) (i : Nat) (s : Shared) (Q : Value -> Shared -> Prop) (E : Value -> Shared -> Prop), tn i s.heap -> Q (.ref it) s -> wpAny (model P w) A (pyIter (.ref it)) Q E s
abbrev TI := St -> Hp -> (It -> Hp -> Prop) -> Prop
def PIE (X : Cx) (pins : List (Addr × Obj)) (σ : St) (tg : Expr) (R : It -> Hp -> Prop) (itv : Value) (s2 : Shared) : Prop :=
  ∃ (it : Addr) (fp : List Addr) (tn : Nat -> Heap -> Prop) (J : It) (H' : Hp), itv = .ref it /\ Inv X pins σ H' s2 /\ Turn X.prog X.w X.K tg J fp it tn /\ tn 0 s2.heap /\ (∀ b ∈ fp, Vt X pins H' b) /\ R J H'
def PI (X : Cx) (tg iter : Expr) (wi : TI) : Prop :=
  ∀ (pins : List (Addr × Obj)) (s : Shared) (σ : St) (H : Hp) (R : It -> Hp -> Prop), Inv X pins σ H s -> wi σ H R ->
    wpAny (model X.prog X.w) X.A (eval iter X.env) (fun v s1 => wpAny (model X.prog X.w) X.A (pyIter v) (PIE X pins σ tg R) X.xe s1) X.xe s
theorem Ab6 {M : Model} {A : Around} {E : Value -> Shared -> Prop} {s : Shared} {tg : Expr} {it : Addr} {u : Value} {o : Obj} {n : String} {vs : Array Value} {Q : Unit -> Shared -> Prop} (ho : s.heap.get? it = some o) (hc : o.cls = .type n) (hd : o.data = .fields vs)
    (hn : ["enumerate", "zip", "dict_itemiterator", "dict_reverseitemiterator", "odict_iterator", "itertools.zip_longest", "itertools.pairwise"].contains n = false) (hQ : Q () s) : wpAny M A (letOwnedTupleGo tg (.ref it) u) Q E s := by
  unfold letOwnedTupleGo
  cases tg <;> first
    | exact wpAny_pure hQ
    | (cases u <;> first
        | exact wpAny_pure hQ
        | (refine wpAny_bind (wpAny_load ho ?_)
           rw [hc, hd]
           show wpAny M A (if (["enumerate", "zip", "dict_itemiterator", "dict_reverseitemiterator", "odict_iterator", "itertools.zip_longest", "itertools.pairwise"].contains n && vs[0]? == some (rawInt _)) = true then _ else _) Q E s
           rw [if_neg (by intro h; rw [hn, Bool.false_and] at h; cases h)]
           exact wpAny_pure hQ))
def Itl (K : PySem.W.Frag) (a : Addr) : It :=
  ⟨fun i H => ∃ xs x, SqL K H a xs /\ xs[i]? = some x, fun i H x H' => H' = H /\ ∀ xs, SqL K H a xs -> xs[i]? = some x, fun i H => ∃ xs, SqL K H a xs /\ xs.length <= i⟩
def Itt (K : PySem.W.Frag) (a : Addr) : It :=
  ⟨fun i H => ∃ xs x, SqT K H a xs /\ xs[i]? = some x, fun i H x H' => H' = H /\ ∀ xs, SqT K H a xs -> xs[i]? = some x, fun i H => ∃ xs, SqT K H a xs /\ xs.length <= i⟩
def Itr (lo : Int) (n : Nat) : It := ⟨fun i _ => i < n, fun i H x H' => H' = H /\ x = .int (lo + i), fun i _ => n <= i⟩
theorem Aby {P : Program} {w : World} {K : PySem.W.Frag} {tg : Expr} (a it : Addr) : Turn P w K tg (Itl K a) [it] it (fun i h => h.IsListIter it a i) where
  mem := by simp
  obj := fun i h st b hb => by
    have e : b = it := by simpa using hb
    subst e
    obtain ⟨o, e, c, d⟩ := st
    exact ⟨o, e, fun v z => by rw [d] at z; cases z⟩
  keep := fun i h h' st k => st.at fun o e => k it (by simp) o e
  item := by
    intro X hP hw hK hc i pins s σ H E I hf st hg
    subst hP hw hK
    obtain ⟨xs, x, hq, hx⟩ := hg
    obtain ⟨its, rv, p, hz⟩ := I.list hq
    obtain ⟨u, hu, ru⟩ := rv.get hx
    obtain ⟨f0, f1, f2, f3, f4, f5⟩ := hf it (by simp)
    refine wpAny_pyNext_list_item st p.isList (x := u) (by simpa using hu) fun h' st' sb => ?_
    have I1 : Inv X pins σ H { s with heap := h' } := I.turned (t' := s.toks) (fun b o hb e => (sb.2 b hb).trans e) f0 f1 f3 f4 f5
    obtain ⟨o, e, c, d⟩ := id st'
    exact ⟨u, rfl, Ab6 (s := { s with heap := h' }) e c d (by decide) ⟨x, H, I1, ru, ⟨rfl, fun ys hy => by rw [I.list_inj hy hq]; exact hx⟩, st', fun b hb => (hf b hb).1⟩⟩
  done := by
    intro X hP hw hK hc i pins s σ H E I hf st hg
    subst hP hw hK
    obtain ⟨xs, hq, hx⟩ := hg
    obtain ⟨its, rv, p, hz⟩ := I.list hq
    obtain ⟨f0, f1, f2, f3, f4, f5⟩ := hf it (by simp)
    have hl := rv.length
    exact wpAny_pyNext_list_end (I.ok.hd hc) st p.isList (by simp; omega) fun h' eb => ⟨rfl, I.turned (t' := s.toks) (fun b o hb e => eb b o hb e) f0 f1 f3 f4 f5⟩
  self := fun _ _ _ _ _ st h => wpAny_pyIter_listiter st h
theorem Yk {P : Program} {w : World} {K : PySem.W.Frag} {tg : Expr} (a it : Addr) : Turn P w K tg (Itt K a) [it] it (fun i h => h.IsTupleIter it a i) where
  mem := by simp
  obj := fun i h st b hb => by
    have e : b = it := by simpa using hb
    subst e
    obtain ⟨o, e, c, d⟩ := st
    exact ⟨o, e, fun v z => by rw [d] at z; cases z⟩
  keep := fun i h h' st k => st.at fun o e => k it (by simp) o e
  item := by
    intro X hP hw hK hc i pins s σ H E I hf st hg
    subst hP hw hK
    obtain ⟨xs, x, hq, hx⟩ := hg
    obtain ⟨its, rv, p, hz⟩ := I.tuple hq
    obtain ⟨u, hu, ru⟩ := rv.get hx
    obtain ⟨f0, f1, f2, f3, f4, f5⟩ := hf it (by simp)
    refine wpAny_pyNext_tuple_item st (show s.heap.IsTuple a its.toArray from p) (x := u) (by simpa using hu) fun h' st' sb => ?_
    have I1 : Inv X pins σ H { s with heap := h' } := I.turned (t' := s.toks) (fun b o hb e => (sb.2 b hb).trans e) f0 f1 f3 f4 f5
    obtain ⟨o, e, c, d⟩ := id st'
    exact ⟨u, rfl, Ab6 (s := { s with heap := h' }) e c d (by decide) ⟨x, H, I1, ru, ⟨rfl, fun ys hy => by rw [I.tuple_inj hy hq]; exact hx⟩, st', fun b hb => (hf b hb).1⟩⟩
  done := by
    intro X hP hw hK hc i pins s σ H E I hf st hg
    subst hP hw hK
    obtain ⟨xs, hq, hx⟩ := hg
    obtain ⟨its, rv, p, hz⟩ := I.tuple hq
    obtain ⟨f0, f1, f2, f3, f4, f5⟩ := hf it (by simp)
    have hl := rv.length
    exact wpAny_pyNext_tuple_end (I.ok.hd hc) st (show s.heap.IsTuple a its.toArray from p) (by simp; omega) fun h' eb => ⟨rfl, I.turned (t' := s.toks) (fun b o hb e => eb b o hb e) f0 f1 f3 f4 f5⟩
  self := fun _ _ _ _ _ st h => wpAny_pyIter_tupleiter st h
theorem Za {P : Program} {w : World} {K : PySem.W.Frag} {tg : Expr} (it : Addr) (lo : Int) (n : Nat) : Turn P w K tg (Itr lo n) [it] it (fun i h => IsRangeIter h it (lo + (i : Nat) * 1) ((n : Int) - (i : Nat)) 1) where
  mem := by simp
  obj := fun i h st b hb => by
    have e : b = it := by simpa using hb
    subst e
    exact ⟨_, st, fun v z => by
      have z' : Data.fields _ = Data.cell v := z
      cases z'⟩
  keep := fun i h h' st k => k it (by simp) _ st
  item := by
    intro X hP hw hK hc i pins s σ H E I hf st hg
    subst hP hw hK
    obtain ⟨f0, f1, f2, f3, f4, f5⟩ := hf it (by simp)
    have W := Walks.range (prog := X.prog) (w := X.w) (I.ok.hd hc) it lo 1 n
    refine W.item i s _ _ hg st fun v h' tk hv st' kk => ?_
    obtain ⟨t, rfl⟩ := hv
    have I1 : Inv X pins σ H { s with heap := h', toks := tk } := I.turned (fun b o hb e => kk b o (by simpa using hb) e) f0 f1 f3 f4 f5
    refine ⟨_, rfl, Ab6 (s := { s with heap := h', toks := tk }) (n := "range_iterator") st' rfl rfl (by decide) ⟨.int (lo + i), H, I1, ⟨t, ?_⟩, ⟨rfl, rfl⟩, st', fun b hb => (hf b hb).1⟩⟩
    rw [Int.mul_one]
  done := by
    intro X hP hw hK hc i pins s σ H E I hf st hg
    subst hP hw hK
    obtain ⟨f0, f1, f2, f3, f4, f5⟩ := hf it (by simp)
    exact wpAny_pyNext_range_end (I.ok.hd hc) st (by have : n <= i := hg; omega) fun h' eb => ⟨rfl, I.turned (t' := s.toks) (fun b o hb e => eb b o hb e) f0 f1 f3 f4 f5⟩
  self := fun _ _ _ _ _ st h => wpAny_pyIter_rangeiter st h
end L2
namespace L2
open PySem PySem.Spec PyProof.Rows
section
variable {X : Cx} {tg : Expr}
def Agx (K : PySem.W.Frag) (tl : TE) : TI := fun σ H R => tl σ H fun x H1 => ∃ a, x = .ref a /\ (∃ xs, SqL K H1 a xs) /\ R (Itl K a) H1
def Aje (K : PySem.W.Frag) (tl : TE) : TI := fun σ H R => tl σ H fun x H1 => ∃ a, x = .ref a /\ (∃ xs, SqT K H1 a xs) /\ R (Itt K a) H1
theorem Oo {l : Expr} {tl : TE} (hl : PE X l tl) : PI X tg l (Agx X.K tl) := by
  intro pins s σ H R I h
  refine thn (hl pins s σ H _ I h) fun v s1 ⟨x, H1, I1, r1, q1⟩ => ?_
  obtain ⟨a, e, ⟨xs, hq⟩, q⟩ := q1
  subst e
  cases r1
  obtain ⟨its, rv, p, hz⟩ := I1.list hq
  refine wpAny_pyIter_list p.isList ?_
  refine ⟨s1.heap.objs.size, [s1.heap.objs.size], _, _, H1, rfl, I1.kept (t' := s1.toks) fun b o e => Heap.get?_push_of_some _ e, Aby a _, ⟨_, Heap.get?_push_size _ rfl, rfl, rfl⟩, fun b hb => ?_, q⟩
  have e : b = s1.heap.objs.size := by simpa using hb
  subst e
  exact I1.fpOk (Nat.le_refl _) (I1.hok.fresh (Nat.le_refl _))
theorem Q0 {l : Expr} {tl : TE} (hl : PE X l tl) : PI X tg l (Aje X.K tl) := by
  intro pins s σ H R I h
  refine thn (hl pins s σ H _ I h) fun v s1 ⟨x, H1, I1, r1, q1⟩ => ?_
  obtain ⟨a, e, ⟨xs, hq⟩, q⟩ := q1
  subst e
  cases r1
  obtain ⟨its, rv, p, hz⟩ := I1.tuple hq
  refine wpAny_pyIter_tuple (show s1.heap.IsTuple a its.toArray from p) ?_
  refine ⟨s1.heap.objs.size, [s1.heap.objs.size], _, _, H1, rfl, I1.kept (t' := s1.toks) fun b o e => Heap.get?_push_of_some _ e, Yk a _, ⟨_, Heap.get?_push_size _ rfl, rfl, rfl⟩, fun b hb => ?_, q⟩
  have e : b = s1.heap.objs.size := by simpa using hb
  subst e
  exact I1.fpOk (Nat.le_refl _) (I1.hok.fresh (Nat.le_refl _))
theorem Adv {pins : List (Addr × Obj)} {σ : St} {H : Hp} {s : Shared} {R : It -> Hp -> Prop} {E : Value -> Shared -> Prop} {lo hi : Int} {t u v : Tok} {tk : Nat} (I : Inv X pins σ H s) (h1 : -(2 ^ 62) <= lo) (h2 : lo < 2 ^ 62) (h3 : -(2 ^ 62) <= hi) (h4 : hi < 2 ^ 62)
    (q : R (Itr lo (hi - lo).toNat) H) : wpAny (model X.prog X.w) X.A (pyIter (.ref s.heap.objs.size)) (PIE X pins σ tg R) E { s with heap := s.heap.push { cls := .type "range", data := .fields #[.int lo t, .int hi u, .int 1 v] }, toks := tk } := by
  refine wpAny_pyIter_range (IsRange.new ..) (small_one h1 h2 h3 h4) ?_
  have I1 : Inv X pins σ H { s with heap := s.heap.push { cls := .type "range", data := .fields #[.int lo t, .int hi u, .int 1 v] }, toks := tk } := I.kept fun b o e => Heap.get?_push_of_some _ e
  refine ⟨(s.heap.push { cls := .type "range", data := .fields #[.int lo t, .int hi u, .int 1 v] }).objs.size, [(s.heap.push { cls := .type "range", data := .fields #[.int lo t, .int hi u, .int 1 v] }).objs.size], _, _, H, rfl,
    I1.kept (t' := tk) fun b o e => Heap.get?_push_of_some _ e, Za _ lo (hi - lo).toNat, ?_, fun b hb => ?_, q⟩
  . have e1 : lo + ((0 : Nat) : Int) * 1 = lo := by simp
    have e2 : (((hi - lo).toNat : Nat) : Int) - ((0 : Nat) : Int) = Builtin.Range.rangeSize lo hi 1 := by rw [rangeSize_one]; split <;> omega
    show IsRangeIter _ _ (lo + ((0 : Nat) : Int) * 1) ((((hi - lo).toNat : Nat) : Int) - ((0 : Nat) : Int)) 1
    rw [e1, e2]
    exact Heap.get?_push_size _ rfl
  . have e : b = (s.heap.push { cls := .type "range", data := .fields #[.int lo t, .int hi u, .int 1 v] }).objs.size := by simpa using hb
    subst e
    exact I1.fpOk (Nat.le_refl _) (I1.hok.fresh (Nat.le_refl _))
def Afw (ta : TA) : TI := fun σ H R => ta σ H fun vs H1 => ∃ j : Int, vs = [.int j] /\ -(2 ^ 62) <= j /\ j < 2 ^ 62 /\ R (Itr 0 j.toNat) H1
def Akc (ta : TA) : TI := fun σ H R => ta σ H fun vs H1 => ∃ i j : Int, vs = [.int i, .int j] /\ (-(2 ^ 62) <= i /\ i < 2 ^ 62 /\ -(2 ^ 62) <= j /\ j < 2 ^ 62) /\ R (Itr i (j - i).toNat) H1
theorem J4 {a : Expr} {ta : TA} {p pos : Pos} (hg : Gl X "range") (hm : X.mg "range" = none) (ha : PA X [a] ta) (hs : starEach [a] X.env = [(false, eval a X.env)] := by rfl) : PI X tg (.Call (.Name "range" p) [a] [] pos) (Afw ta) := by
  intro pins s σ H R I h
  refine Call_ (Ow I hg hm boot_range (PyProof.Rows.callWith_type1 (thn (ha pos pins s σ H _ I h) fun us s1 ⟨vs, H1, I1, r1, q1⟩ => ?_) hs rfl))
  obtain ⟨j, e, q1, q2, q⟩ := q1
  subst e
  cases r1 with
  | cons r rr =>
    cases rr
    obtain ⟨t, rfl⟩ := r
    exact call_range_1 (Adv I1 (by omega) (by omega) q1 q2 (by simpa using q))
def Aj4 (wi : TI) (g : TG) (tb : TS) : TS := fun D σ H => wi σ H fun J H1 => ∃ W : Nat -> Nat -> St -> Hp -> Prop, (∃ m, W 0 m σ H1) /\ ∀ i m σ H, W i m σ H ->
  (J.stop i H /\ D.nx σ H) \/ (J.go i H /\ ∃ N : St -> Hp -> Prop, (∀ σ' H', N σ' H' -> ∃ m', m' < m /\ W (i + 1) m' σ' H') /\ ∀ x H', J.yld i H x H' -> g x σ H' fun σ2 H2 => tb { D with nx := N, ct := N, bk := D.nx } σ2 H2)
def Us (fp : List Addr) (h : Heap) : List (Addr × Obj) := fp.filterMap fun b => (h.get? b).map fun o => (b, o)
theorem Ip {fp : List Addr} {h : Heap} {b : Addr} {o : Obj} (hb : b ∈ fp) (e : h.get? b = some o) : (b, o) ∈ Us fp h := List.mem_filterMap.mpr ⟨b, hb, by rw [e]; rfl⟩
theorem Aax {fp : List Addr} {h : Heap} {p : Addr × Obj} (hp : p ∈ Us fp h) : p.1 ∈ fp /\ h.get? p.1 = some p.2 := by
  obtain ⟨b, hb, e⟩ := List.mem_filterMap.mp hp
  cases q : h.get? b with
  | none => rw [q] at e; cases e
  | some o =>
    rw [q] at e
    have e' : (b, o) = p := Option.some.inj e
    subst e'
    exact ⟨hb, q⟩
theorem Inv.pinned {pins : List (Addr × Obj)} {σ : St} {H : Hp} {s : Shared} {fp : List Addr} (I : Inv X pins σ H s) (hf : ∀ b ∈ fp, Vt X pins H b) (ho : ∀ b ∈ fp, ∃ o, s.heap.get? b = some o /\ ∀ v, o.data ≠ .cell v) : Inv X (pins ++ Us fp s.heap) σ H s :=
  I.pins_of fun p hp => (List.mem_append.mp hp).elim (fun z => I.pin p (List.mem_append_right _ z)) fun z => by
    obtain ⟨hb, e⟩ := Aax z
    obtain ⟨f0, f1, f2, _⟩ := hf p.1 hb
    obtain ⟨o, e', d⟩ := ho p.1 hb
    rw [e] at e'; cases e'
    exact ⟨e, f0, f1, f2, d⟩
theorem Inv.unpinned {pins pl : List (Addr × Obj)} {σ : St} {H : Hp} {s : Shared} (I : Inv X (pins ++ pl) σ H s) : Inv X pins σ H s := I.pins_of fun p hp => I.pin p (List.mem_append_right _ (List.mem_append_left _ hp))
theorem Ey {iter : Expr} {body : List Stmt} {wi : TI} {g : TG} {tb : TS} {pos : Pos} (hp : PassesOwn (model X.prog X.w) X.A X.env X.xe) (hc : X.calm = true) (hi : PI X tg iter wi) (hg : PG X tg g) (hb : PSs X body tb)
    (hs : ∀ x, foldedSetIterable iter X.env x = pure x := by intro _; rfl) : PS X (.For tg iter body [] pos) (Aj4 wi g tb) := by
  intro pins s σ H D I h
  refine wpAny_For (thn (hi pins s σ H _ I h) fun v s1 h1 => thn h1 fun itv s2 h2 => ?_) hs
  obtain ⟨it, fp, tn, J, H2, e, I2, T, st2, f2, W, ⟨m0, w0⟩, turn⟩ := h2
  subst e
  have stat : ∀ {H' : Hp}, (∀ b ∈ fp, H' b = none) -> ∀ b ∈ fp, Vt X pins H' b := fun hn b hb => ⟨hn b hb, (f2 b hb).2⟩
  refine codeAny_forLoop_any (fun n s' => ∃ i σ' H', Inv X pins σ' H' s' /\ tn i s'.heap /\ (∀ b ∈ fp, H' b = none) /\ W i n σ' H') ?_ m0 ⟨0, σ, H2, I2, st2, fun b hb => (f2 b hb).1, w0⟩
  rintro n s3 ⟨i, σ3, H3, I3, st3, fr3, w3⟩
  rcases turn i n σ3 H3 w3 with ⟨stop, qn⟩ | ⟨go, N, hN, step⟩
  . refine wpAny_passesOwn hp (thn (T.done X rfl rfl rfl hc i pins s3 σ3 H3 X.xe I3 (stat fr3) st3 stop) fun r s4 ⟨hr, I4⟩ => ?_)
    subst hr
    exact wpAny_execs_nil ⟨σ3, H3, I4, qn⟩
  . refine wpAny_passesOwn hp (thn (T.item X rfl rfl rfl hc i pins s3 σ3 H3 X.xe I3 (stat fr3) st3 go) fun r s4 ⟨u, hr, h4⟩ => ?_)
    subst hr
    refine wpAny_passesOwn hp (thn h4 fun _ s5 ⟨x, H5, I5, r5, y5, st5, fr5⟩ => ?_)
    have I5' := I5.pinned (stat fr5) (T.obj _ _ st5)
    refine wpAny_passesOwn hp (thn (hg _ s5 σ3 H5 x u _ I5' r5 (step x H5 y5)) fun _ s6 ⟨σ6, H6, I6, q6⟩ => ?_)
    refine wpAny_passesOwn hp (thn (hb _ s6 σ6 H6 _ I6 q6) fun f s7 q7 => ?_)
    have again : ∀ {σ7 : St} {H7 : Hp}, Inv X (pins ++ Us fp s5.heap) σ7 H7 s7 -> N σ7 H7 -> ∃ m, m < n /\ ∃ i σ' H', Inv X pins σ' H' s7 /\ tn i s7.heap /\ (∀ b ∈ fp, H' b = none) /\ W i m σ' H' := fun {σ7 H7} I7 n7 => by
      obtain ⟨m', hm, w7⟩ := hN σ7 H7 n7
      refine ⟨m', hm, i + 1, σ7, H7, I7.unpinned, T.keep _ _ _ st5 fun b hb o e => (I7.pin (b, o) (List.mem_append_right _ (List.mem_append_right _ (Ip hb e)))).1, fun b hb => ?_, w7⟩
      obtain ⟨o, e, d⟩ := T.obj _ _ st5 b hb
      exact (I7.pin (b, o) (List.mem_append_right _ (List.mem_append_right _ (Ip hb e)))).2.1
    cases f with
    | next => obtain ⟨σ7, H7, I7, n7⟩ := q7; exact again I7 n7
    | cont => obtain ⟨σ7, H7, I7, n7⟩ := q7; exact again I7 n7
    | brk => obtain ⟨σ7, H7, I7, q7⟩ := q7; exact ⟨σ7, H7, I7.unpinned, q7⟩
    | ret v => obtain ⟨x7, σ7, H7, I7, r7, q7⟩ := q7; exact ⟨x7, σ7, H7, I7.unpinned, r7, q7⟩
end
theorem Acu {c : TT} {tb : TS} {D : Ends} {σ : St} {H : Hp} (Pv : St -> Hp -> Prop) (μ : St -> Hp -> Nat) (h0 : Pv σ H)
    (hs : ∀ σ H, Pv σ H -> c σ H fun b H1 => if b = true then tb { D with nx := fun σ' H' => Pv σ' H' /\ μ σ' H' < μ σ H, ct := fun σ' H' => Pv σ' H' /\ μ σ' H' < μ σ H, bk := D.nx } σ H1 else D.nx σ H1)
    (mono : ∀ σ H Q Q', (∀ b H1, Q b H1 -> Q' b H1) -> c σ H Q -> c σ H Q') : Uz c tb D σ H := by
  refine ⟨fun m σ H => m = μ σ H /\ Pv σ H, ⟨_, rfl, h0⟩, ?_⟩
  rintro m σ H ⟨rfl, p⟩
  refine mono σ H _ _ (fun b H1 q => ?_) (hs σ H p)
  cases b with
  | true => exact ⟨_, fun σ' H' ⟨p', l⟩ => ⟨_, l, rfl, p'⟩, q⟩
  | false => exact q
end L2
namespace L2
open PySem PySem.Spec PyProof.Rows
abbrev R2 := V -> V -> Hp -> VK -> Prop
def OpR (X : Cx) (f : Value -> Value -> Sem Value) (r : R2) : Prop :=
  ∀ (pins : List (Addr × Obj)) (s : Shared) (σ : St) (H : Hp) (x y : V) (v u : Value) (Q : VK), Inv X pins σ H s -> RelV x v -> RelV y u -> r x y H Q ->
    wpAny (model X.prog X.w) X.A (f v u) (EP X pins σ Q) X.xe s
def UnR (X : Cx) (f : Value -> Sem Value) (r : V -> Hp -> VK -> Prop) : Prop :=
  ∀ (pins : List (Addr × Obj)) (s : Shared) (σ : St) (H : Hp) (x : V) (v : Value) (Q : VK), Inv X pins σ H s -> RelV x v -> r x H Q ->
    wpAny (model X.prog X.w) X.A (f v) (EP X pins σ Q) X.xe s
def Ik (X : Cx) (f : Value) (r : List V -> Hp -> VK -> Prop) : Prop :=
  ∀ (pins : List (Addr × Obj)) (s : Shared) (σ : St) (H : Hp) (xs : List V) (us : List Value) (Q : VK), Inv X pins σ H s -> Vals xs us -> r xs H Q ->
    wpAny (model X.prog X.w) X.A (call f us) (EP X pins σ Q) X.xe s
def tOp (r : R2) (ta tb : TE) : TE := fun σ H Q => ta σ H fun x H1 => tb σ H1 fun y H2 => r x y H2 Q
def tUn (r : V -> Hp -> VK -> Prop) (ta : TE) : TE := fun σ H Q => ta σ H fun x H1 => r x H1 Q
def rI (C : Int -> Int -> Prop) (g : Int -> Int -> V) : R2 := fun x y H Q => ∃ i j, x = .int i /\ y = .int j /\ C i j /\ Q (g i j) H
def rI0 (g : Int -> Int -> V) : R2 := fun x y H Q => ∃ i j, x = .int i /\ y = .int j /\ Q (g i j) H
def rU (g : Int -> V) : V -> Hp -> VK -> Prop := fun x H Q => ∃ i, x = .int i /\ Q (g i) H
section
variable {X : Cx} {a b c : Expr} {ta tb tc : TE} {pos : Pos}
theorem Ajx (ha : PE X a ta) (hb : PE X b tb) {pins : List (Addr × Obj)} {s : Shared} {σ : St} {H : Hp} {R : V -> V -> Hp -> Prop} (I : Inv X pins σ H s)
    (h : ta σ H fun x H1 => tb σ H1 fun y H2 => R x y H2) {Q : Value -> Shared -> Prop} {f : Value -> Value -> Sem Value}
    (hf : ∀ v u s2 x y H2, Inv X pins σ H2 s2 -> RelV x v -> RelV y u -> R x y H2 -> wpAny (model X.prog X.w) X.A (f v u) Q X.xe s2) :
    wpAny (model X.prog X.w) X.A (eval a X.env) (fun v s₁ => wpAny (model X.prog X.w) X.A (eval b X.env) (fun u s₂ => wpAny (model X.prog X.w) X.A (f v u) Q X.xe s₂) X.xe s₁) X.xe s := by
  refine thn (ha pins s σ H _ I h) fun v s1 ⟨x, H1, I1, r1, q1⟩ => ?_
  refine thn (hb pins s1 σ H1 _ I1 q1) fun u s2 ⟨y, H2, I2, r2, q2⟩ => ?_
  exact hf v u s2 x y H2 I2 r1 r2 q2
theorem Ak {op : Operator} {r : R2} (ho : OpR X (binaryOp op) r) (ha : PE X a ta) (hb : PE X b tb) : PE X (.BinOp a op b pos) (tOp r ta tb) := by
  intro pins s σ H Q I h
  exact wpAny_BinOp (Ajx ha hb I h fun v u s2 x y H2 I2 rx ry q => ho pins s2 σ H2 x y v u Q I2 rx ry q)
theorem Dr {op : UnaryOp} {r : V -> Hp -> VK -> Prop} (ho : UnR X (unaryOp op) r) (ha : PE X a ta) : PE X (.UnaryOp op a pos) (tUn r ta) := by
  intro pins s σ H Q I h
  exact UnaryOp_ (thn (ha pins s σ H _ I h) fun v s1 ⟨x, H1, I1, r1, q1⟩ => ho pins s1 σ H1 x v Q I1 r1 q1)
theorem opI {f : Value -> Value -> Sem Value} {C : Int -> Int -> Prop} {g : Int -> Int -> Int}
    (rule : ∀ (i j : Int) (t u : Tok) (s : Shared) (Q : Value -> Shared -> Prop) (E : Value -> Shared -> Prop), C i j -> Q (.int (g i j) s.toks) { s with toks := s.toks + 1 } -> wpAny (model X.prog X.w) X.A (f (.int i t) (.int j u)) Q E s) :
    OpR X f (rI C fun i j => .int (g i j)) := by
  intro pins s σ H x y v u Q I rx ry h
  obtain ⟨i, j, rfl, rfl, hc, q⟩ := h
  obtain ⟨t, rfl⟩ := rx
  obtain ⟨t', rfl⟩ := ry
  exact rule i j t t' s _ _ hc ⟨.int (g i j), H, I.tok _, ⟨_, rfl⟩, q⟩
theorem Akm {f : Value -> Value -> Sem Value} {g : Int -> Int -> Int}
    (rule : ∀ (i j : Int) (t u : Tok) (s : Shared) (Q : Value -> Shared -> Prop) (E : Value -> Shared -> Prop), Q (.int (g i j) s.toks) { s with toks := s.toks + 1 } -> wpAny (model X.prog X.w) X.A (f (.int i t) (.int j u)) Q E s) :
    OpR X f (rI0 fun i j => .int (g i j)) := by
  intro pins s σ H x y v u Q I rx ry h
  obtain ⟨i, j, rfl, rfl, q⟩ := h
  obtain ⟨t, rfl⟩ := rx
  obtain ⟨t', rfl⟩ := ry
  exact rule i j t t' s _ _ ⟨.int (g i j), H, I.tok _, ⟨_, rfl⟩, q⟩
theorem Aki {f : Value -> Value -> Sem Value} {g : Int -> Int -> Bool}
    (rule : ∀ (i j : Int) (t u : Tok) (s : Shared) (Q : Value -> Shared -> Prop) (E : Value -> Shared -> Prop), Q (.bool (g i j)) s -> wpAny (model X.prog X.w) X.A (f (.int i t) (.int j u)) Q E s) :
    OpR X f (rI0 fun i j => .bl (g i j)) := by
  intro pins s σ H x y v u Q I rx ry h
  obtain ⟨i, j, rfl, rfl, q⟩ := h
  obtain ⟨t, rfl⟩ := rx
  obtain ⟨t', rfl⟩ := ry
  exact rule i j t t' s _ _ ⟨.bl (g i j), H, I, rfl, q⟩
def Akz (i j : Int) : Prop := 0 <= j /\ j <= 1000000 /\ i.natAbs < 2 ^ 64
def Akf (i j : Int) : Prop := (-(2 ^ 64) < i /\ i < 2 ^ 64) \/ (-(2 ^ 64) < j /\ j < 2 ^ 64)
theorem Akf.ok {i j : Int} (h : Akf i j) : IntMulOk i j := by
  rcases h with ⟨h1, h2⟩ | ⟨h1, h2⟩
  . exact .of_left (intBits_le_64 h1 h2)
  . exact .of_right (intBits_le_64 h1 h2)
theorem Cw : OpR X (binaryOp .Add) (rI0 fun i j => .int (i + j)) := Akm fun _ _ _ _ _ _ _ q => add_int q
theorem Ej : OpR X (binaryOp .Sub) (rI0 fun i j => .int (i - j)) := Akm fun _ _ _ _ _ _ _ q => sub_int q
theorem Ec : OpR X (binaryOp .Mod) (rI (fun _ j => 0 < j) fun i j => .int (i % j)) := opI fun i j _ _ _ _ _ hc q => by
  have h1 : (0 : Int) < j := hc
  exact mod_int' (by omega) (by rw [Int.fmod_eq_emod_of_nonneg i (by omega)]; exact q)
theorem Aaa : OpR X (binaryOp .Pow) (rI Akz fun i j => .int (i ^ j.toNat)) := opI fun _ _ _ _ _ _ _ hc q => pow_int_small hc.1 hc.2.1 hc.2.2 q
theorem unI {f : Value -> Sem Value} {g : Int -> Int}
    (rule : ∀ (i : Int) (t : Tok) (s : Shared) (Q : Value -> Shared -> Prop) (E : Value -> Shared -> Prop), Q (.int (g i) s.toks) { s with toks := s.toks + 1 } -> wpAny (model X.prog X.w) X.A (f (.int i t)) Q E s) :
    UnR X f (rU fun i => .int (g i)) := by
  intro pins s σ H x v Q I rx h
  obtain ⟨i, rfl, q⟩ := h
  obtain ⟨t, rfl⟩ := rx
  exact rule i t s _ _ ⟨.int (g i), H, I.tok _, ⟨_, rfl⟩, q⟩
theorem Ci : UnR X (unaryOp .USub) (rU fun i => .int (-i)) := unI fun _ _ _ _ _ q => neg_int q
end
def Ag9 : V -> V -> Bool
  | .non, .non => true | .non, .int _ => true | .int _, .non => true | .non, .bl _ => true | .bl _, .non => true | .non, .str _ => true | .str _, .non => true
  | .int _, .int _ => true | .bl _, .bl _ => true | .str _, .str _ => true | .byt _, .byt _ => true
  | .int _, .str _ => true | .str _, .int _ => true | .bl _, .str _ => true | .str _, .bl _ => true
  | _, _ => false
def rEq : R2 := fun x y H Q => Ag9 x y = true /\ Q (.bl (decide (x = y))) H
def rNe : R2 := fun x y H Q => Ag9 x y = true /\ Q (.bl (!decide (x = y))) H
theorem Abl {i j : Int} : decide (V.int i = V.int j) = (i == j) := by
  rw [Bool.eq_iff_iff]
  simp
theorem Aez {i j : Bool} : decide (V.bl i = V.bl j) = (i == j) := by
  rw [Bool.eq_iff_iff]
  simp
theorem Z1 {i j : Str} : decide (V.str i = V.str j) = (i == j) := by
  rw [Bool.eq_iff_iff]
  simp
theorem Aat {i j : Array UInt8} : decide (V.byt i = V.byt j) = (i.toList == j.toList) := by
  rw [Bool.eq_iff_iff]
  cases i
  cases j
  simp
section
variable {X : Cx} {a b c : Expr} {ta tb tc : TE} {pos : Pos}
theorem Ck {pins : List (Addr × Obj)} {σ : St} {H : Hp} {s : Shared} {Q : VK} {k k' : Bool} (I : Inv X pins σ H s) (q : Q (.bl k) H) (e : k = k') : EP X pins σ Q (.bool k') s := by
  subst e
  exact ⟨.bl k, H, I, rfl, q⟩
theorem Lq : OpR X (compareOp .Eq) rEq := by
  intro pins s σ H x y v u Q I rx ry h
  obtain ⟨hs, q⟩ := h
  cases x with
  | non =>
    cases rx
    cases y with
    | non => cases ry; exact PySem.EqNone.eq_none_none (Ck I q (by simp))
    | bl j => cases ry; exact PySem.EqNone.eq_none_bool (Ck I q (by simp))
    | int j => obtain ⟨t', rfl⟩ := ry; exact PySem.EqNone.eq_none_int (Ck I q (by simp))
    | str j => obtain ⟨t', rfl⟩ := ry; exact PySem.EqNone.eq_none_str (Ck I q (by simp))
    | _ => exact absurd (show false = true from hs) Bool.false_ne_true
  | bl i =>
    cases rx
    cases y with
    | non => cases ry; exact PySem.EqNone.eq_bool_none (Ck I q (by simp))
    | bl j => cases ry; exact eq_bool (Ck I q Aez)
    | str j => obtain ⟨t', rfl⟩ := ry; exact PySem.EqMixed.eq_bool_str (Ck I q (by simp))
    | _ => exact absurd (show false = true from hs) Bool.false_ne_true
  | int i =>
    obtain ⟨t, rfl⟩ := rx
    cases y with
    | non => cases ry; exact PySem.EqNone.eq_int_none (Ck I q (by simp))
    | int j => obtain ⟨t', rfl⟩ := ry; exact eq_int (Ck I q Abl)
    | str j => obtain ⟨t', rfl⟩ := ry; exact PySem.EqMixed.eq_int_str (Ck I q (by simp))
    | _ => exact absurd (show false = true from hs) Bool.false_ne_true
  | str i =>
    obtain ⟨t, rfl⟩ := rx
    cases y with
    | non => cases ry; exact PySem.EqNone.eq_str_none (Ck I q (by simp))
    | bl j => cases ry; exact PySem.EqMixed.eq_str_bool (Ck I q (by simp))
    | int j => obtain ⟨t', rfl⟩ := ry; exact PySem.EqMixed.eq_str_int (Ck I q (by simp))
    | str j => obtain ⟨t', rfl⟩ := ry; exact eq_str (Ck I q Z1)
    | _ => exact absurd (show false = true from hs) Bool.false_ne_true
  | byt i =>
    obtain ⟨t, rfl⟩ := rx
    cases y with
    | byt j => obtain ⟨t', rfl⟩ := ry; exact PySem.W.eq_bytes (Ck I q Aat)
    | _ => exact absurd (show false = true from hs) Bool.false_ne_true
  | _ => cases y <;> exact absurd (show false = true from hs) Bool.false_ne_true
theorem Ry : OpR X (compareOp .NotEq) rNe := by
  intro pins s σ H x y v u Q I rx ry h
  obtain ⟨hs, q⟩ := h
  cases x with
  | non =>
    cases rx
    cases y with
    | non => cases ry; exact PySem.EqNone.ne_none_none (Ck I q (by simp))
    | bl j => cases ry; exact PySem.EqNone.ne_none_bool (Ck I q (by simp))
    | int j => obtain ⟨t', rfl⟩ := ry; exact PySem.EqNone.ne_none_int (Ck I q (by simp))
    | str j => obtain ⟨t', rfl⟩ := ry; exact PySem.EqNone.ne_none_str (Ck I q (by simp))
    | _ => exact absurd (show false = true from hs) Bool.false_ne_true
  | bl i =>
    cases rx
    cases y with
    | non => cases ry; exact PySem.EqNone.ne_bool_none (Ck I q (by simp))
    | bl j => cases ry; exact ne_bool (Ck I q (congrArg not Aez))
    | str j => obtain ⟨t', rfl⟩ := ry; exact PySem.EqMixed.ne_bool_str (Ck I q (by simp))
    | _ => exact absurd (show false = true from hs) Bool.false_ne_true
  | int i =>
    obtain ⟨t, rfl⟩ := rx
    cases y with
    | non => cases ry; exact PySem.EqNone.ne_int_none (Ck I q (by simp))
    | int j => obtain ⟨t', rfl⟩ := ry; exact ne_int (Ck I q (congrArg not Abl))
    | str j => obtain ⟨t', rfl⟩ := ry; exact PySem.EqMixed.ne_int_str (Ck I q (by simp))
    | _ => exact absurd (show false = true from hs) Bool.false_ne_true
  | str i =>
    obtain ⟨t, rfl⟩ := rx
    cases y with
    | non => cases ry; exact PySem.EqNone.ne_str_none (Ck I q (by simp))
    | bl j => cases ry; exact PySem.EqMixed.ne_str_bool (Ck I q (by simp))
    | int j => obtain ⟨t', rfl⟩ := ry; exact PySem.EqMixed.ne_str_int (Ck I q (by simp))
    | str j => obtain ⟨t', rfl⟩ := ry; exact ne_str (Ck I q (congrArg not Z1))
    | _ => exact absurd (show false = true from hs) Bool.false_ne_true
  | byt i =>
    obtain ⟨t, rfl⟩ := rx
    cases y with
    | byt j => obtain ⟨t', rfl⟩ := ry; exact PySem.W.ne_bytes (Ck I q (congrArg not Aat))
    | _ => exact absurd (show false = true from hs) Bool.false_ne_true
  | _ => cases y <;> exact absurd (show false = true from hs) Bool.false_ne_true
theorem Tt : OpR X (compareOp .Lt) (rI0 fun i j => .bl (decide (i < j))) := Aki fun _ _ _ _ _ _ _ q => lt_int q
theorem Vk : OpR X (compareOp .Gt) (rI0 fun i j => .bl (decide (j < i))) := Aki fun _ _ _ _ _ _ _ q => gt_int q
theorem Ahh : OpR X (compareOp .Is) (fun x y H Q => y = .non /\ Q (.bl (decide (x = .non))) H) := by
  intro pins s σ H x y v u Q I rx ry h
  obtain ⟨rfl, q⟩ := h
  cases ry
  refine is_none_gen (Ck I q ?_)
  cases x <;> first
    | (cases rx; rfl)
    | (obtain ⟨t, rfl⟩ := rx; rfl)
theorem OpR.or {f : Value -> Value -> Sem Value} {r r' : R2} (h : OpR X f r) (h' : OpR X f r') : OpR X f (fun x y H Q => r x y H Q \/ r' x y H Q) := by
  intro pins s σ H x y v u Q I rx ry q
  rcases q with q | q
  . exact h pins s σ H x y v u Q I rx ry q
  . exact h' pins s σ H x y v u Q I rx ry q
theorem Aq (b : Expr) {op : CmpOp} (h : op ≠ .In := by decide) (h2 : op ≠ .NotIn := by decide) : behindInMarks op b = false := by
  have e1 : (op == CmpOp.In) = false := by cases op <;> first | rfl | exact absurd rfl h
  have e2 : (op == CmpOp.NotIn) = false := by cases op <;> first | rfl | exact absurd rfl h2
  cases b <;> simp [behindInMarks, e1, e2]
theorem Hv {op : CmpOp} {r : R2} (ho : OpR X (compareOp op) r) (ha : PE X a ta) (hb : PE X b tb) (hm : behindInMarks op b = false) : PE X (.Compare a [op] [b] pos) (tOp r ta tb) := by
  intro pins s σ H Q I h
  exact wpAny_Compare1 (Ajx ha hb I h fun v u s2 x y H2 I2 rx ry q => ho pins s2 σ H2 x y v u Q I2 rx ry q) hm
def Agg (t : TE) : TT := fun σ H Q => t σ H fun x H' => ∃ k, x = .bl k /\ Q k H'
theorem Aj {op : CmpOp} {r : R2} (ho : OpR X (compareOp op) r) (ha : PE X a ta) (hb : PE X b tb) (hm : behindInMarks op b = false) : PT X (.Compare a [op] [b] pos) (Agg (tOp r ta tb)) := by
  intro pins s σ H Q I h
  refine wpAny_isTrue_Compare1 (thn (ha pins s σ H _ I h) fun v s1 ⟨x, H1, I1, r1, q1⟩ => thn (hb pins s1 σ H1 _ I1 q1) fun u s2 ⟨y, H2, I2, r2, q2⟩ =>
    thn (ho pins s2 σ H2 x y v u _ I2 r1 r2 q2) fun c s3 ⟨z, H3, I3, r3, k, e, q3⟩ => ?_) hm
  subst e
  cases r3
  exact wpAny_truthy_bool ⟨H3, I3, q3⟩
def Aih (r r' : R2) (ta tb tc : TE) : TE := fun σ H Q => ta σ H fun x H1 => tb σ H1 fun y H2 => r x y H2 fun z H3 => ∃ k, z = .bl k /\
  (if k = true then tc σ H3 fun w' H4 => r' y w' H4 Q else Q (.bl false) H3)
theorem R6 : (sizeLine : Nat) < 2 ^ 63 := by rw [sizeLine_eq]; decide
theorem vals1 {x : V} {us : List Value} (r : Vals [x] us) : ∃ u, us = [u] /\ RelV x u := by
  cases r with
  | cons r1 r2 => cases r2; exact ⟨_, rfl, r1⟩
theorem vals2 {x y : V} {us : List Value} (r : Vals [x, y] us) : ∃ u w', us = [u, w'] /\ RelV x u /\ RelV y w' := by
  cases r with
  | cons r1 r2 =>
    cases r2 with
    | cons r3 r4 => cases r4; exact ⟨_, _, rfl, r1, r3⟩
theorem Ul : Ik X (.builtin "abs") (fun xs H Q => ∃ i, xs = [.int i] /\ Q (.int (if i < 0 then -i else i)) H) := by
  intro pins s σ H xs us Q I r h
  obtain ⟨i, rfl, q⟩ := h
  obtain ⟨u, rfl, t, rfl⟩ := vals1 r
  exact call_abs_int fun u tk => ⟨.int (if i < 0 then -i else i), H, I.tok _, ⟨_, rfl⟩, q⟩
theorem Vf (hc : X.calm = true) : Ik X (.builtin "max") (fun xs H Q => ∃ i j, xs = [.int i, .int j] /\ Q (.int (if j > i then j else i)) H) := by
  intro pins s σ H xs us Q I r h
  obtain ⟨i, j, rfl, q⟩ := h
  obtain ⟨u, w', rfl, ⟨t, rfl⟩, ⟨t', rfl⟩⟩ := vals2 r
  refine max_two_ints (I.ok.hd hc) fun h' tk k => ⟨_, H, I.kept k, ?_, q⟩
  by_cases hj : j > i
  . rw [if_pos hj, if_pos hj]; exact ⟨_, rfl⟩
  . rw [if_neg hj, if_neg hj]; exact ⟨_, rfl⟩
end
end L2
namespace L2
open PySem PySem.Spec PyProof.Rows
structure Ai6 (h : Heap) (x dx C : Addr) (mA : Str -> Option Value) : Prop where
  obj : h.get? x = some (PySem.W.instObj C dx)
  ns : h.Ns1 dx mA
  ne : dx ≠ x
theorem Zo {h : Heap} {dx : Addr} {mA : Str -> Option Value} (n : h.Ns1 dx mA) : ∃ od, h.get? dx = some od /\ ∀ name, PySem.W.lookIn name od = some (mA name) := by
  obtain ⟨o, es, ep, ho, hd, hk, _, hm⟩ := n
  refine ⟨o, ho, fun name => ?_⟩
  have e := hm name
  unfold nsFind findBy at e
  rw [<- Array.find?_toList] at e
  unfold PySem.W.lookIn
  rw [hd]
  dsimp only
  split
  . rename_i y q
    rw [q] at e
    exact congrArg some e
  . rename_i q
    rw [q] at e
    have a : es.toList.any (·.refKey) = false := by
      rw [List.any_eq_false]
      intro y hy
      obtain ⟨z, t, hkey⟩ := hk y (Array.mem_toList_iff.mp hy)
      simp [DictEntry.refKey, hkey]
    have a' : ¬ es.toList.any (·.refKey) = true := by rw [a]; exact Bool.false_ne_true
    rw [if_neg a']
    exact congrArg some e
theorem Ai6.look {h : Heap} {x dx C : Addr} {mA : Str -> Option Value} (I : Ai6 h x dx C mA) : ∃ od, PySem.W.InstAt h x (PySem.W.instObj C dx) C (some od) /\ ∀ name, PySem.W.lookIn name od = some (mA name) :=
  let ⟨od, ho, hl⟩ := Zo I.ns
  ⟨od, ⟨I.obj, rfl, rfl, ho⟩, hl⟩
section
variable {P : Program} {w : World} {H H' : Hp} {h h' : Heap} {a C dx : Addr} {fs fs' : List (Str × V)}
theorem Ag2 (hok : HOk P w H h) (e : H a = some (.ins C dx fs)) : ∃ mA, Ai6 h a dx C mA /\ (∀ f, Ai2 (fs.lookup f) (mA f)) /\ PySem.Within mA (fs.map (·.1)) /\ fs.length <= 1000 /\ H dx = some (.own a) := by
  obtain ⟨d, z, ne, ob, mA, n, r, q⟩ := (show Ho P w H h a (.ins C dx fs) from hok a _ e)
  exact ⟨mA, ⟨ob, n, ne⟩, r, q, z, d⟩
end
structure Cls (K : PySem.W.Frag) (C : Addr) : Prop where
  pg : PySem.W.plainGet K C Str.empty = true
  hd : PySem.W.hasDictIn K C = true
  po : PySem.W.plainOver K C = true
  sa : PySem.W.findIn K (.ref C) "__setattr__" = some (some (.builtin "object.__setattr__"))
theorem Cls.get {K : PySem.W.Frag} {C : Addr} (c : Cls K C) (f : Str) : PySem.W.plainGet K C f = true := c.pg
structure Con (K : PySem.W.Frag) (C : Addr) (f : Str) (v : V) (u : Value) : Prop where
  at_ : PySem.W.findIn K (.ref C) f = some (some u)
  rel : RelV v u
  get : PySem.W.specialIn K u "__get__" = some none
  cp : PySem.W.copiedNames.contains f = false
structure Meth (K : PySem.W.Frag) (C : Addr) (m : Str) (f : Addr) : Prop where
  at_ : PySem.W.findIn K (.ref C) m = some (some (.ref f))
  fn : PySem.W.isFn K (.ref f) = true
  kp : PySem.W.keepIn K (.ref f) = true
section
variable {X : Cx} {pins : List (Addr × Obj)} {σ : St} {H : Hp} {s : Shared} {A : Around} {E : Value -> Shared -> Prop} {Q : Value -> Shared -> Prop} {c : Value} {b : Bool}
inductive Vv (K : PySem.W.Frag) (H : Hp) : V -> Value -> Prop where
  | non : Vv K H .non (.type "NoneType")
  | bl (x : Bool) : Vv K H (.bl x) (.type "bool")
  | int (i : Int) : Vv K H (.int i) (.type "int")
  | str (x : Str) : Vv K H (.str x) (.type "str")
  | flt (x : UInt64) : Vv K H (.flt x) (.type "float")
  | lst {a : Addr} {xs : List V} (e : H a = some (.lst xs)) : Vv K H (.ref a) (.type "list")
  | frz {a : Addr} {o : Obj} {xs : List V} (e : H a = some (.frz o (.lst xs))) : Vv K H (.ref a) (.type "list")
  | tup {a : Addr} {xs : List V} (e : H a = some (.tup xs)) : Vv K H (.ref a) (.type "tuple")
  | dK {a : Addr} {kvs : List (Key × V)} (e : H a = some (.dK kvs)) : Vv K H (.ref a) (.type "dict")
  | dT {a : Addr} {kvs : List (List Key × V)} (e : H a = some (.dT kvs)) : Vv K H (.ref a) (.type "dict")
  | ins {a C dx : Addr} {fs : List (Str × V)} (e : H a = some (.ins C dx fs)) (cl : Cls K C) (ha : PySem.W.findIn K (.ref C) "__class__" = some (some (.builtin "object.__class__")))
      (hn : PySem.W.specialIn K (.builtin "object.__class__") "__get__" = some (some (.builtin "getset_descriptor.__get__"))) (htk : PySem.W.takesIn K (.builtin "object.__class__") = some true)
      (hm : PySem.W.mroIn K C (.type "object") = some true) : Vv K H (.ref a) (.ref C)
theorem Aa8 {x : V} {u t : Value} (I : Inv X pins σ H s) (rx : RelV x u) (ty : Vv X.K H x t) (e : PySem.W.kitOne X.K t c = some b) (h : ∀ tk, Q (.bool b) { s with toks := tk }) :
    wpAny (model X.prog X.w) A (call (.builtin "isinstance") [u, c]) Q E s := by
  cases ty with
  | non => cases (show u = Value.none from rx); exact PySem.W.kia_one PySem.W.kitx_none I.kIn True.intro e (fun z => nomatch z) h
  | bl y => cases (show u = Value.bool y from rx); exact PySem.W.kia_one PySem.W.kitx_bool I.kIn True.intro e (fun z => nomatch z) h
  | int i => obtain ⟨t, q⟩ := (show ∃ t, u = Value.int i t from rx); cases q; exact PySem.W.kia_one PySem.W.kitx_int I.kIn True.intro e (fun z => nomatch z) h
  | str y => obtain ⟨t, q⟩ := (show ∃ t, u = Value.str y t from rx); cases q; exact PySem.W.kia_one PySem.W.kitx_str I.kIn True.intro e (fun z => nomatch z) h
  | flt y => obtain ⟨t, q⟩ := (show ∃ t, u = Value.float y t from rx); cases q; exact PySem.W.kia_one PySem.W.kitx_float I.kIn True.intro e (fun z => nomatch z) h
  | @lst a xs ea =>
    cases (show u = Value.ref a from rx)
    obtain ⟨_, _, n, _, h1⟩ := (show Ho X.prog X.w H s.heap a (.lst xs) from I.hok a _ ea)
    exact PySem.W.kia_one PySem.W.kitx_list I.kIn ⟨_, h1, rfl⟩ e (fun z => nomatch z) h
  | @frz a ob xs ea =>
    cases (show u = Value.ref a from rx)
    obtain ⟨_, _, _, n, _, h1⟩ := (show Ho X.prog X.w H s.heap a (.frz ob (.lst xs)) from I.hok a _ ea)
    exact PySem.W.kia_one PySem.W.kitx_list I.kIn ⟨_, h1, rfl⟩ e (fun z => nomatch z) h
  | @tup a xs ea =>
    cases (show u = Value.ref a from rx)
    obtain ⟨_, _, _, p⟩ := (show Ho X.prog X.w H s.heap a (.tup xs) from I.hok a _ ea)
    obtain ⟨o, h1, h2, _⟩ := p
    exact PySem.W.kia_one PySem.W.kitx_tuple I.kIn ⟨o, h1, h2⟩ e (fun z => nomatch z) h
  | @dK a kvs ea =>
    cases (show u = Value.ref a from rx)
    obtain ⟨_, _, vs, _, p⟩ := (show Ho X.prog X.w H s.heap a (.dK kvs) from I.hok a _ ea)
    obtain ⟨o, es, ep, h1, h2, _⟩ := p
    exact PySem.W.kia_one PySem.W.kitx_dict I.kIn ⟨o, h1, h2.1⟩ e (fun z => nomatch z) h
  | @dT a kvs ea =>
    cases (show u = Value.ref a from rx)
    obtain ⟨_, _, xs, _, o, es, ep, h1, h2, _⟩ := (show Ho X.prog X.w H s.heap a (.dT kvs) from I.hok a _ ea)
    exact PySem.W.kia_one PySem.W.kitx_dict I.kIn ⟨o, h1, h2.1⟩ e (fun z => nomatch z) h
  | @ins a C dx fs ea cl ha hn htk hm =>
    cases (show u = Value.ref a from rx)
    obtain ⟨mA, O, _⟩ := Ag2 I.hok ea
    obtain ⟨od, J, _⟩ := O.look
    exact PySem.W.kia_one (PySem.W.kitx_own (cl.get _) cl.hd ha hn htk hm) I.kIn J e (fun z => nomatch z) h
end
end L2
namespace L2
open PySem PySem.Spec PyProof.Rows
structure Kg (k : Nat) (A : Around) : Prop where
  hd : A.handled = none
  dp : A.depth + 3 * k + 5 < recursionLimit
  un : A.units + 16 * k + 200 < cLine
theorem Kg.mono {j k : Nat} {A : Around} (r : Kg k A) (h : j <= k) : Kg j A := ⟨r.hd, by have := r.dp; omega, by have := r.un; omega⟩
theorem Kg.deeper {k : Nat} {A : Around} (r : Kg (k + 1) A) (env : Env) : Kg k (A.deeper env) :=
  ⟨r.hd, by have := r.dp; show A.depth + 1 + 3 * k + 5 < _; omega, by have := r.un; show A.units + 3 + 16 * k + 200 < _; omega⟩
theorem Kg.in1 {k : Nat} {A : Around} (r : Kg (k + 1) A) : Kg k A.in1 :=
  ⟨r.hd, by have := r.dp; show A.depth + 3 * k + 5 < _; omega, by have := r.un; show A.units + 1 + 16 * k + 200 < _; omega⟩
theorem Yz {A : Around} {C : Addr} {us : List Value} {kw : List (Str × Value)} : (A.under (.builtin "type.__call__" ⟨.ref C :: us, kw⟩)).depth = A.depth + 1 := by
  first | rfl | simp [Around.under, Code.weight, Code.isCreation, Code.isGuard, Code.isCaller, Code.frames, Code.isFrame, guardIds]
theorem Y9 {A : Around} {C : Addr} {us : List Value} {kw : List (Str × Value)} : (A.under (.builtin "type.__call__" ⟨.ref C :: us, kw⟩)).units = A.units + 1 := by
  first | rfl | simp [Around.under, Code.cUnits, Code.frames, Code.isFrame]
theorem Kg.make {k : Nat} {A : Around} (r : Kg (k + 1) A) (C : Addr) (us : List Value) (kw : List (Str × Value)) : Kg k (A.under (.builtin "type.__call__" ⟨.ref C :: us, kw⟩)) :=
  ⟨r.hd, by have := r.dp; rw [Yz]; omega, by have := r.un; rw [Y9]; omega⟩
theorem Kg.depth {k : Nat} {A : Around} (r : Kg k A) : A.depth < recursionLimit := by have := r.dp; omega
theorem Kg.units {k : Nat} {A : Around} (r : Kg k A) : A.units + 64 < cLine := by have := r.un; omega
def Ajt : TA := fun _ H Q => Q [] H
def Adu (ta : TE) (tr : TA) : TA := fun σ H Q => ta σ H fun x H1 => tr σ H1 fun xs H2 => Q (x :: xs) H2
section
variable {X : Cx} {e : Expr} {es : List Expr} {te : TE} {t : TA} {pos : Pos}
theorem Ab : PA X [] Ajt := fun _ _ _ _ H Q I h => Calls.spliced_nil ⟨[], H, I, .nil, h⟩
theorem Af5 (ha : PE X e te) (hr : PA X es t) (hs : starEach (e :: es) X.env = (false, eval e X.env) :: starEach es X.env := by rfl) : PA X (e :: es) (Adu te t) := by
  intro pos pins s σ H Q I h
  rw [hs]
  show wpAny _ _ (spliced ((false, eval e X.env) :: backTo pos (starEach es X.env))) _ _ s
  refine Calls.spliced_cons (thn (ha pins s σ H _ I h) fun u s1 ⟨x, H1, I1, r1, q1⟩ => ?_)
  exact thn (hr pos pins s1 σ H1 _ I1 q1) fun us s2 ⟨xs, H2, I2, r2, q2⟩ => ⟨x :: xs, H2, I2, .cons r1 r2, q2⟩
def Aj9 (t : TA) : TE := fun σ H Q => t σ H fun xs H1 => xs.length <= sizeLine /\ ∀ p, H1 p = none -> Q (.ref p) (upd H1 p (.tup xs))
def Ajg (t : TA) : TE := fun σ H Q => t σ H fun xs H1 => xs.length <= sizeLine /\ ∀ p, H1 p = none -> Q (.ref p) (upd H1 p (.lst xs))
theorem Ar {x1} (h : PA X es t) : PE X (.Tuple es x1 pos) (Aj9 t) := by
  intro pins s σ H Q I hq
  refine wpAny_Tuple_spliced (thn (h pos pins s σ H _ I hq) fun us s1 ⟨xs, H1, I1, r, z, q⟩ => ⟨by rw [<- r.length]; exact z, ?_⟩)
  have hf : H1 s1.heap.objs.size = none := I1.hok.fresh (Nat.le_refl _)
  refine ⟨.ref s1.heap.objs.size, upd H1 s1.heap.objs.size (.tup xs), I1.laid (t' := s1.toks) (fun b u e => Heap.get?_push_of_some _ e) (Nat.le_refl _) ?_, rfl, q _ hf⟩
  exact ⟨z, us, r, ⟨_, Heap.get?_push_size _ rfl, rfl, _, rfl⟩⟩
theorem Ht (h : PA X es t) : PE X (.List es pos) (Ajg t) := by
  intro pins s σ H Q I hq
  refine wpAny_List_spliced (thn (h pos pins s σ H _ I hq) fun us s1 ⟨xs, H1, I1, r, z, q⟩ => ⟨by rw [<- r.length]; exact z, ?_⟩)
  have hf : H1 s1.heap.objs.size = none := I1.hok.fresh (Nat.le_refl _)
  refine ⟨.ref s1.heap.objs.size, upd H1 s1.heap.objs.size (.lst xs), I1.laid (t' := s1.toks) (fun b u e => Heap.get?_push_of_some _ e) (Nat.le_refl _) ?_, rfl, q _ hf⟩
  exact ⟨z, us, 0, r, Heap.get?_push_size _ rfl⟩
end
abbrev Sp := List V -> Hp -> VK -> XK -> Prop
abbrev CXT := List Env -> Hp -> Shared -> XK -> Value -> Shared -> Prop
structure Aci (P : Program) (w : World) (K : PySem.W.Frag) (mg : Str -> Option Value) (base : Heap) (A : Around) (outer : List Env) (s : Shared) (H : Hp) : Prop where
  frames : A.frames = some outer
  mod : Mod K mg base
  bs : ∀ b o, base.get? b = some o -> s.heap.get? b = some o /\ H b = none
  bsz : base.objs.size <= s.heap.objs.size
  funs : s.heap.FunFrames base outer
  frf : ∀ b ∈ frs outer, H b = none
  hok : HOk P w H s.heap
  bare : AllBare s.gens
def CE (outer : List Env) (P : Program) (w : World) (H : Hp) (s : Shared) (Q : VK) (u : Value) (s' : Shared) : Prop :=
  ∃ v H', s'.os = s.os /\ AllBare s'.gens /\ Un (frs outer) [] H H' s.heap s'.heap /\ HOk P w H' s'.heap /\ RelV v u /\ Q v H'
def CR (CX : CXT) (outer : List Env) (P : Program) (w : World) (H : Hp) (s : Shared) (Q : VK) (E : XK) (r : Result) (s' : Shared) : Prop :=
  match r with
  | .ok (.ret u) => CE outer P w H s Q u s'
  | .ok _ => False
  | .error e => CX outer H s E e s'
structure Rx (P : Program) (w : World) (K : PySem.W.Frag) (mg : Str -> Option Value) (base : Heap) (CX : CXT) (k : Nat) (f : Addr) (fd : FuncData) (ps : List Str) (sp : Sp) : Prop where
  len : ∀ vs H Q E, sp vs H Q E -> vs.length = ps.length
  run : ∀ (A : Around) (outer : List Env) (s : Shared) (H : Hp) (args : Args) (us : List Value) (vs : List V) (Q : VK) (E : XK), Kg k A -> Aci P w K mg base A outer s H -> BindsTo s fd args (ps.zip us) -> Vals vs us -> sp vs H Q E ->
    codeAny (model P w) A (.call (.ref f) args) (CR CX outer P w H s Q E) s
theorem Rx.mono {P : Program} {w : World} {K : PySem.W.Frag} {mg : Str -> Option Value} {base : Heap} {CX : CXT} {j k : Nat} {f : Addr} {fd : FuncData} {ps : List Str} {sp : Sp} (F : Rx P w K mg base CX j f fd ps sp) (h : j <= k) :
    Rx P w K mg base CX k f fd ps sp := ⟨F.len, fun A outer s H args us vs Q E hr => F.run A outer s H args us vs Q E (hr.mono h)⟩
theorem Aci.make {P : Program} {w : World} {K : PySem.W.Frag} {mg : Str -> Option Value} {base : Heap} {A : Around} {outer : List Env} {s : Shared} {H : Hp} (e : Aci P w K mg base A outer s H) (C : Addr) (us : List Value) (kw : List (Str × Value)) :
    Aci P w K mg base (A.under (.builtin "type.__call__" ⟨.ref C :: us, kw⟩)) outer s H := ⟨by first | exact e.frames | (simpa [Around.under, Code.envs, Code.isFrame, pushEnvs] using e.frames), e.mod, e.bs, e.bsz, e.funs, e.frf, e.hok, e.bare⟩
theorem Aci.in1 {P : Program} {w : World} {K : PySem.W.Frag} {mg : Str -> Option Value} {base : Heap} {A : Around} {outer : List Env} {s : Shared} {H : Hp} (e : Aci P w K mg base A outer s H) :
    Aci P w K mg base A.in1 outer s H := ⟨e.frames, e.mod, e.bs, e.bsz, e.funs, e.frf, e.hok, e.bare⟩
section
variable {X : Cx} {pins : List (Addr × Obj)} {σ : St} {H : Hp} {s s' : Shared}
theorem Inv.env0 (I : Inv X pins σ H s) : Aci X.prog X.w X.K X.mg X.base X.A X.stack s H :=
  ⟨I.ok.frames, I.ok.mod, I.bs, Nat.le_trans I.ok.bsz I.sz, I.stack, I.stkFree, I.hok, I.bare⟩
theorem Inv.after {Q : VK} {u : Value} (I : Inv X pins σ H s) (h : CE X.stack X.prog X.w H s Q u s') : EP X pins σ Q u s' := by
  obtain ⟨v, H', os, bare, un, hok, r, q⟩ := h
  obtain ⟨hh, g, d, t, os'⟩ := s'
  obtain rfl : os' = s.os := os
  exact ⟨v, H', I.call (h' := hh) (g' := g) (d' := d) (t' := t) (ch := []) un hok bare (fun b z => absurd z (by simp)), r, q⟩
end
def Wj (sp : Sp) (dvs : List V) (E : XK) (t : TA) : TE := fun σ H Q => t σ H fun vs H1 => sp (vs ++ dvs) H1 Q E
def Binds (K : PySem.W.Frag) (fd : FuncData) (ps : List Str) (ds : List Value) : Prop :=
  ∀ (s : Shared) (us : List Value), K.In s.heap -> (us ++ ds).length = ps.length -> BindsTo s fd ⟨us, []⟩ (ps.zip (us ++ ds))
theorem Binds.all {K : PySem.W.Frag} {fd : FuncData} {ps : List Str} (h : ∀ us : List Value, us.length = ps.length -> bindArgs fd ⟨us, []⟩ = pure (ps.zip us)) : Binds K fd ps [] := fun s us _ hl => by
  rw [List.append_nil] at hl ⊢
  exact .of_eq (h us hl)
def Passes (CX : CXT) (X : Cx) (E : XK) : Prop := ∀ (pins : List (Addr × Obj)) (σ : St) (H : Hp) (s : Shared) (e : Value) (s' : Shared), Inv X pins σ H s -> CX X.stack H s E e s' -> X.xe e s'
section
variable {X : Cx} {CX : CXT} {k : Nat} {f C : Addr} {fd : FuncData} {ps : List Str} {sp : Sp} {dvs : List V} {ds : List Value} {E : XK} {x m : Str} {p pos apos : Pos} {e o : Expr} {es : List Expr} {ta : TE} {t : TA}
theorem Aer {pins : List (Addr × Obj)} {σ : St} {H : Hp} {s : Shared} {Q : VK} {us : List Value} {vs : List V} (F : Rx X.prog X.w X.K X.mg X.base CX k f fd ps sp) (hr : Kg k X.A) (hb : Binds X.K fd ps ds) (hd : Vals dvs ds) (hx : Passes CX X E)
    (I : Inv X pins σ H s) (r : Vals vs us) (h : sp (vs ++ dvs) H Q E) : wpAny (model X.prog X.w) X.A (call (.ref f) us) (EP X pins σ Q) X.xe s := by
  have r2 : Vals (vs ++ dvs) (us ++ ds) := r.append hd
  have hl : (us ++ ds).length = ps.length := by rw [<- r2.length]; exact F.len _ _ _ _ h
  refine wpAny_call (codeAny_mono (F.run X.A X.stack s H ⟨us, []⟩ (us ++ ds) (vs ++ dvs) Q E hr I.env0 (hb s us I.kIn hl) r2 h) fun r s' hq => ?_)
  cases r with
  | error e => exact hx pins σ H s e s' I hq
  | ok fl =>
    cases fl with
    | ret u => exact I.after hq
    | next => exact False.elim hq
    | brk => exact False.elim hq
    | cont => exact False.elim hq
theorem Acg (F : Rx X.prog X.w X.K X.mg X.base CX k f fd ps sp) (hr : Kg k X.A) (hg : Gl X x) (hm : X.mg x = some (.ref f)) (hk : PySem.W.keepIn X.K (.ref f) = true) (hb : Binds X.K fd ps ds) (hd : Vals dvs ds) (hx : Passes CX X E)
    (ha : PA X (e :: es) t) (hdb : (x == ("__debug__" : Str)) = false := by decide) (he : starEach (e :: es) X.env = (false, eval e X.env) :: starEach es X.env := by rfl) (hpl : (backTo pos (starEach es X.env)).any (·.1) = false := by rfl) :
    PE X (.Call (.Name x p) (e :: es) [] pos) (Wj sp dvs E t) := by
  intro pins s σ H Q I h
  refine wpAny_Call_Name_kw (Qu I hg hm ?_ hdb)
  refine PySem.W.callWith_K (h₀ := X.base) I.ok.mod.kin hk (thn (ha pos pins s σ H _ I h) fun us s1 ⟨vs, H1, I1, r, q⟩ => ⟨I1.kIn, ?_⟩) he hpl
  exact Aer F hr hb hd hx I1 r q
structure Mk (K : PySem.W.Frag) (C f : Addr) : Prop where
  makes : PySem.W.makesIn K C = true
  init : PySem.W.findIn K (.ref C) "__init__" = some (some (.ref f))
  fn : PySem.W.isFn K (.ref f) = true
  kp : PySem.W.keepIn K (.ref C) = true
end
section
variable {X : Cx} {CX : CXT} {k : Nat} {f C : Addr} {fd : FuncData} {ps ks : List Str} {sp : Sp} {E : XK} {x m : Str} {p pos apos kpos : Pos} {e o : Expr} {es : List Expr} {kws : List Keyword} {te ta : TE} {t tk : TA} {nm : Option Str}
structure Akh (K : PySem.W.Frag) (fd : FuncData) (ps ks : List Str) (g : List Value -> List Value -> List Value) (gV : List V -> List V -> List V) : Prop where
  to : ∀ (s : Shared) (us ws : List Value), K.In s.heap -> (g us ws).length = ps.length -> BindsTo s fd ⟨us, ks.zip ws⟩ (ps.zip (g us ws))
  rel : ∀ {vs : List V} {us : List Value} {zs : List V} {ws : List Value}, Vals vs us -> Vals zs ws -> Vals (gV vs zs) (g us ws)
variable {g : List Value -> List Value -> List Value} {gV : List V -> List V -> List V}
end
structure Ao (N P : List Str) (sc : Scope) : Prop where
  kind : sc.kind = .function
  co : sc.isCoroutine = false
  gen : sc.isGenerator = false
  nd : N.Nodup
  pre : N.take P.length = P
  par : ∀ x ∈ P, sc.names.lookup x = some .local \/ sc.names.lookup x = some .cell
  nofree : ∀ y ∈ sc.names, y.2 ≠ .free
theorem Vn {kindOf : Str -> Option NameKind} {x : Str} : ∀ {binds : List (Str × Value)} {m : Str -> Option Value}, (∀ v, (x, v) ∉ binds) -> bindL kindOf binds m x = m x
  | [], _, _ => rfl
  | (n, v) :: r, m, h => by
    unfold bindL
    rw [Vn fun w hw => h w (List.mem_cons_of_mem _ hw)]
    split
    . have : x ≠ n := by rintro rfl; exact h v List.mem_cons_self
      simp [this]
    . rfl
theorem U0 {kindOf : Str -> Option NameKind} {x : Str} : ∀ {binds : List (Str × Value)} {m : Str -> Option Value}, (∀ v, (x, v) ∉ binds) -> bindC kindOf binds m x = m x
  | [], _, _ => rfl
  | (n, v) :: r, m, h => by
    unfold bindC
    rw [U0 fun w hw => h w (List.mem_cons_of_mem _ hw)]
    split
    . rfl
    . have : x ≠ n := by rintro rfl; exact h v List.mem_cons_self
      simp [this]
theorem Uw {kindOf : Str -> Option NameKind} {x : Str} {v : Value} : ∀ {P : List Str} {vs : List Value} {i : Nat} {m : Str -> Option Value}, P.Nodup -> P[i]? = some x -> vs[i]? = some v -> kindOf x = some .local ->
    bindL kindOf (P.zip vs) m x = some v
  | [], _, _, _, _, h, _, _ => by simp at h
  | _ :: _, [], _, _, _, _, h, _ => by simp at h
  | p :: P, w :: vs, 0, m, nd, h1, h2, hk => by
    simp at h1 h2; subst h1; subst h2
    show bindL kindOf ((p, w) :: P.zip vs) m p = _
    unfold bindL
    rw [Vn fun v hv => (List.nodup_cons.mp nd).1 (List.of_mem_zip hv).1, if_pos hk]
    simp
  | p :: P, w :: vs, i + 1, m, nd, h1, h2, hk => by
    show bindL kindOf ((p, w) :: P.zip vs) m x = _
    unfold bindL
    exact Uw (i := i) (List.nodup_cons.mp nd).2 (by simpa using h1) (by simpa using h2) hk
theorem Uy {kindOf : Str -> Option NameKind} {x : Str} {v : Value} : ∀ {P : List Str} {vs : List Value} {i : Nat} {m : Str -> Option Value}, P.Nodup -> P[i]? = some x -> vs[i]? = some v -> kindOf x ≠ some .local ->
    bindC kindOf (P.zip vs) m x = some v
  | [], _, _, _, _, h, _, _ => by simp at h
  | _ :: _, [], _, _, _, _, h, _ => by simp at h
  | p :: P, w :: vs, 0, m, nd, h1, h2, hk => by
    simp at h1 h2; subst h1; subst h2
    show bindC kindOf ((p, w) :: P.zip vs) m p = _
    unfold bindC
    rw [U0 fun v hv => (List.nodup_cons.mp nd).1 (List.of_mem_zip hv).1, if_neg hk]
    simp
  | p :: P, w :: vs, i + 1, m, nd, h1, h2, hk => by
    show bindC kindOf ((p, w) :: P.zip vs) m x = _
    unfold bindC
    exact Uy (i := i) (List.nodup_cons.mp nd).2 (by simpa using h1) (by simpa using h2) hk
def start (N : List Str) (vs : List V) : St := vs.map some ++ List.replicate (N.length - vs.length) none
def Rq (CX : CXT) (P : Program) (w : World) (K : PySem.W.Frag) (mg : Str -> Option Value) (base : Heap) (N : List Str) (qual : Str) (scope : Scope) (f : Addr) (cd : Value) (A : Around) (outer : List Env) (s : Shared) (H : Hp) (E : XK) : Cx where
  prog := P
  w := w
  K := K
  mg := mg
  base := base
  A := A.deeper (envOfC qual scope s.heap.objs.size f cd)
  N := N
  s₀ := s
  H₀ := H
  env := envOfC qual scope s.heap.objs.size f cd
  outer := outer
  stack := envOfC qual scope s.heap.objs.size f cd :: outer
  ex := []
  calm := true
  fn := fun _ => true
  pn := []
  xe := fun e s' => wpAny (model P w) (A.deeper (envOfC qual scope s.heap.objs.size f cd)) (leaving (envOfC qual scope s.heap.objs.size f cd) e) (fun _ s'' => CX outer H s E e s'') (fun e' s'' => CX outer H s E e' s'') s'
theorem Xd {sc : Scope} {n : Nat} {x : Str} (h : sc.names.lookup x = some .cell) : ∃ c, (cellsFrom n sc.names []).lookup x = some c := by
  have q := PySem.W.cellsFrom_some sc.names n [] (.inl h)
  exact Option.isSome_iff_exists.mp q
theorem Aca {CX : CXT} {P : Program} {w : World} {K : PySem.W.Frag} {mg : Str -> Option Value} {base : Heap} {N ps : List Str} {qual : Str} {scope : Scope} {f : Addr} {cd : Value} {A : Around} {outer : List Env} {s s1 : Shared} {H : Hp} {E : XK} {us : List Value} {vs : List V}
    (S : Ao N ps scope) (hd : A.handled = none) (e0 : Aci P w K mg base A outer s H) (hl : vs.length = ps.length) (r : Vals vs us)
    (x : InCallC s s.heap.objs.size (bindL (envOfC qual scope s.heap.objs.size f cd).kindOf (ps.zip us) fun _ => none) (cellsFrom (s.heap.objs.size + 1) scope.names []) (bindC (envOfC qual scope s.heap.objs.size f cd).kindOf (ps.zip us) fun _ => none) s1) :
    Inv (Rq CX P w K mg base N qual scope f cd A outer s H E) [] (start N vs) H s1 := by
  have hpl : ps.length <= N.length := by have := congrArg List.length S.pre; rw [List.length_take] at this; omega
  obtain ⟨h1, tk, rfl, hk⟩ := x.done
  have noA : ∀ b : Addr, b ∉ (Rq CX P w K mg base N qual scope f cd A outer s H E).ex := fun b z => absurd (show b ∈ ([] : List Addr) from z) (by simp)
  refine ⟨⟨e0.mod, S.kind, rfl, rfl, Nat.le_refl _, fun y z c h1 h2 => ?_, fun y hy => ?_, fun y c _ h => ?_, fun _ => hd, Around.frames_deeper e0.frames, .inr ⟨rfl, rfl⟩, fun b z => absurd z (noA b), e0.bs, e0.bsz, fun b _ _ => noA b, fun b z => absurd z (noA b), e0.funs, e0.frf⟩,
    rfl, e0.bare, Un.kept hk, ⟨_, x.toInCall.ns, fun i y v h1 h2 h3 => ?_⟩, fun y c h => ⟨_, x.cell y c h⟩, e0.hok.fresh (Nat.le_refl _), fun y c h => ?_, fun p hp => absurd (show p ∈ ([] : List (Addr × Obj)) from hp) (by simp), e0.hok.kept hk, ?_⟩
  . exact name_of_addr x.apart (PySem.mem_of_lookup h1) (PySem.mem_of_lookup h2)
  . have hy : scope.names.lookup y = some .cell \/ scope.names.lookup y = some .free := hy
    rcases hy with hy | hy
    . exact Xd hy
    . exact absurd rfl (S.nofree _ (PySem.mem_of_lookup hy))
  . exact Nat.le_of_lt (x.above y c (PySem.mem_of_lookup h))
  . have hi : i < vs.length := by
      unfold start at h2
      by_cases hi : i < vs.length
      . exact hi
      . rw [List.getElem?_append_right (by simpa using hi)] at h2
        rw [List.getElem?_replicate] at h2
        split at h2 <;> cases h2
    have ha : vs[i]? = some v := by
      unfold start at h2
      rw [List.getElem?_append_left (by simpa using hi), List.getElem?_map] at h2
      cases e : vs[i]? with
      | none => rw [e] at h2; cases h2
      | some a => rw [e] at h2; cases h2; rfl
    obtain ⟨u, hu, rv⟩ := r.get ha
    have hp : ps[i]? = some y := by
      rw [<- S.pre, List.getElem?_take_of_lt (by omega)]; exact h1
    have ndP : ps.Nodup := by rw [<- S.pre]; exact S.nd.sublist (List.take_sublist _ _)
    refine ⟨u, rv, ?_⟩
    rcases S.par y (List.mem_of_getElem? hp) with k | k
    . exact .inl ⟨k, Uw ndP hp hu k⟩
    . obtain ⟨c, e⟩ := Xd (n := s.heap.objs.size + 1) k
      refine .inr ⟨.inl k, c, e, ?_⟩
      have q := x.cell y c e
      rw [Uy ndP hp hu (by show scope.names.lookup y ≠ _; rw [k]; decide)] at q
      exact q
  . exact e0.hok.fresh (Nat.le_of_lt (x.above y c (PySem.mem_of_lookup h)))
  . unfold start
    show _ = N.length
    rw [List.length_append, List.length_map, List.length_replicate]
    omega
theorem Ah2 {CX : CXT} {P : Program} {w : World} {K : PySem.W.Frag} {mg : Str -> Option Value} {base : Heap} {k : Nat} {f : Addr} {name qual : Str} {params : Arguments} {body : List Stmt} {scope : Scope} {dV kV doc pm cdv ct oc : Value} {an od : Option Addr}
    {osl : Array (Option Value)} {N ps : List Str} {sp : Sp} (lk : K.lookup f = some ⟨oc, od, .func (PySem.W.fnOf name qual params body scope dV kV doc pm an cdv ct), osl⟩) (hcd : PySem.W.codeIn K cdv qual = true) (S : Ao N ps scope)
    (len : ∀ vs H Q E, sp vs H Q E -> vs.length = ps.length)
    (hbody : ∀ (A : Around) (outer : List Env) (s : Shared) (H : Hp) (vs : List V) (Q : VK) (E : XK), Kg k (A.deeper (envOfC qual scope s.heap.objs.size f cdv)) -> sp vs H Q E ->
      ∃ t, PSs (Rq CX P w K mg base N qual scope f cdv A outer s H E) body t /\ t { nx := fun _ H' => Q .non H', rt := Q } (start N vs) H) :
    Rx P w K mg base CX (k + 1) f (PySem.W.fnOf name qual params body scope dV kV doc pm an cdv ct) ps sp := by
  refine ⟨len, fun A outer s H args us vs Q E hr e0 hb r hsp => ?_⟩
  have hl := len _ _ _ _ hsp
  have KX : K.In s.heap := e0.mod.kin.keeps fun b o e => (e0.bs b o e).1
  have lim : s.heap.NoLimit := e0.mod.nolimit.keeps fun b o e => (e0.bs b o e).1
  have hkind : ∀ y ∈ ps.zip us, scope.names.lookup y.1 = some .local \/ (scope.names.lookup y.1 = some .cell /\ ((cellsFrom (s.heap.objs.size + 1) scope.names []).lookup y.1).isSome = true) := fun ⟨n, v⟩ hy => by
    rcases S.par n (List.of_mem_zip hy).1 with q | q
    . exact .inl q
    . exact .inr ⟨q, PySem.W.cellsFrom_some _ _ _ (.inl q)⟩
  refine codeAny_call_function hr.depth (KX _ _ lk) rfl S.co S.gen rfl (PySem.W.codeRec_of KX hcd) (hb _ _ _ _ ?_)
  refine wpAny_newFunctionEnv_cells S.kind hkind fun env he s1 x => ?_
  subst he
  refine ⟨lim.keeps x.toInCall.keep, codeAny_func ?_⟩
  obtain ⟨t, ht, hq⟩ := hbody A outer s H vs Q E (hr.deeper _) hsp
  have I : Inv (Rq CX P w K mg base N qual scope f cdv A outer s H E) [] (start N vs) H s1 := Aca S hr.hd e0 hl r x
  refine wpAny_mono (ht [] s1 (start N vs) H _ I hq) (fun fl s' hs => ?_) fun e s' hs => hs
  have fin : ∀ {σ' : St} {H' : Hp} {v : V} {u : Value}, Inv (Rq CX P w K mg base N qual scope f cdv A outer s H E) [] σ' H' s' -> RelV v u -> Q v H' -> CE outer P w H s Q u s' :=
    fun {σ' H' v u} J rv q => ⟨v, H', J.os, J.bare, J.base, J.hok, rv, q⟩
  cases fl with
  | ret u =>
    obtain ⟨v, σ', H', J, rv, q⟩ := hs
    exact fin J rv q
  | next =>
    obtain ⟨σ', H', J, q⟩ := hs
    exact fin (v := V.non) (u := Value.none) J rfl q
  | brk =>
    obtain ⟨_, _, _, q⟩ := hs
    exact False.elim q
  | cont =>
    obtain ⟨_, _, _, q⟩ := hs
    exact False.elim q
end L2
namespace L2
open PySem PySem.Spec PyProof.Rows
section
variable {X : Cx} {x : Str} {p pos : Pos} {e : Expr} {es : List Expr} {t : TA} {id T : String} {r : List V -> Hp -> VK -> Prop}
def tCB (r : List V -> Hp -> VK -> Prop) (t : TA) : TE := fun σ H Q => t σ H fun vs H1 => r vs H1 Q
theorem Acp (hc : Ik X (.builtin id) r) (hg : Gl X x) (hm : X.mg x = none) (hv : bootBuiltins x = some (.builtin id)) (ha : PA X (e :: es) t) (hn : x ≠ "__name__" := by decide) (hdb : (x == ("__debug__" : Str)) = false := by decide)
    (he : starEach (e :: es) X.env = (false, eval e X.env) :: starEach es X.env := by rfl) (hpl : (backTo pos (starEach es X.env)).any (·.1) = false := by rfl) : PE X (.Call (.Name x p) (e :: es) [] pos) (tCB r t) := by
  intro pins s σ H Q I h
  refine wpAny_Call_Name_kw (Ow I hg hm hv ?_ hn hdb)
  exact PyProof.Rows.callWith_builtin1 (thn (ha pos pins s σ H _ I h) fun us s1 ⟨vs, H1, I1, r1, q1⟩ => hc pins s1 σ H1 vs us Q I1 r1 q1) he hpl
theorem Abs (hc : Ik X (.type T) r) (hg : Gl X x) (hm : X.mg x = none) (hv : bootBuiltins x = some (.type T)) (ha : PA X (e :: es) t) (hn : x ≠ "__name__" := by decide) (hdb : (x == ("__debug__" : Str)) = false := by decide)
    (he : starEach (e :: es) X.env = (false, eval e X.env) :: starEach es X.env := by rfl) (hpl : (backTo pos (starEach es X.env)).any (·.1) = false := by rfl) : PE X (.Call (.Name x p) (e :: es) [] pos) (tCB r t) := by
  intro pins s σ H Q I h
  refine wpAny_Call_Name_kw (Ow I hg hm hv ?_ hn hdb)
  exact PyProof.Rows.callWith_type1 (thn (ha pos pins s σ H _ I h) fun us s1 ⟨vs, H1, I1, r1, q1⟩ => hc pins s1 σ H1 vs us Q I1 r1 q1) he hpl
end
end L2
namespace HT
open PySem PyProof.Rows
section
variable {prog : Program} {w : World} {A : Around} {E : Value -> Shared -> Prop} {s : Shared}
theorem Afr {t b : Addr} {vs ws : List Value} {Q : Value -> Shared -> Prop} (ht : IsTup s.heap t vs.toArray) (hb : IsTup s.heap b ws.toArray) (hv : vs ≠ [])
    (h1 : ws = [] -> Q (.ref t) s) (h2 : ws ≠ [] -> Q (.ref s.heap.objs.size) { s with heap := s.heap.push { cls := .type "tuple", data := .seq (vs ++ ws).toArray } })
    (hsz : vs.length + ws.length <= sizeLine) : wpAny (model prog w) A (binaryOp .Add (.ref t) (.ref b)) Q E s := by
  obtain ⟨⟨cls, dd, data, sl⟩, ho, hc, n, hd⟩ := id ht
  obtain ⟨⟨cls2, dd2, data2, sl2⟩, ho2, hc2, n2, hd2⟩ := id hb
  simp only at hc hd hc2 hd2
  subst hc hd hc2 hd2
  have e : vs.toArray ++ ws.toArray = (vs ++ ws).toArray := by simp
  by_cases hw : ws = []
  . exact concat_meets ⟨_, ho, rfl⟩ ⟨_, ho2, rfl⟩ noFill_tuple_add seq_tuple_add PySem.F.slot_tuple_add PySem.F.entry_tuple_add (PySem.F.args_tuple_add_2 _ _)
      (tuple_addW1 t b vs.toArray ws.toArray n n2 dd dd2 sl sl2 (by simpa using hv) (by simp [hw])) ⟨ho, ho2, h1 hw⟩
  . refine concat_meets ⟨_, ho, rfl⟩ ⟨_, ho2, rfl⟩ noFill_tuple_add seq_tuple_add PySem.F.slot_tuple_add PySem.F.entry_tuple_add (PySem.F.args_tuple_add_2 _ _)
      (tuple_addW2 t b vs.toArray ws.toArray n n2 dd dd2 sl sl2 (by simpa using hv) (by simpa using hw) (by rw [List.size_toArray, List.size_toArray]; exact hsz)) ⟨ho, ho2, ?_⟩
    rw [e]
    exact h2 hw
def sIx (n d : Nat) : Option Int -> Nat
  | none => d
  | some v => if v < 0 then (v + (n : Int)).toNat else min v.toNat n
theorem Pa (n d : Nat) : sIx n d none = d := rfl
theorem V5 (n d k : Nat) : sIx n d (some (k : Int)) = min k n := by
  show (if (k : Int) < 0 then ((k : Int) + (n : Int)).toNat else min (k : Int).toNat n) = min k n
  rw [if_neg (by omega), Int.toNat_natCast]
theorem Ahr (n d : Nat) (hd : d <= n) (o : Option Int) : sIx n d o <= n := by
  cases o with
  | none => exact hd
  | some v =>
    show (if v < 0 then (v + (n : Int)).toNat else min v.toNat n) <= n
    by_cases hv : v < 0
    . rw [if_pos hv]; omega
    . rw [if_neg hv]; exact Nat.min_le_right _ _
theorem Abq (v : Int) (n d : Nat) : (if v < 0 then max (v + (n : Int)) 0 else min v (n : Int)) = ((sIx n d (some v) : Nat) : Int) := by
  show (if v < 0 then max (v + (n : Int)) 0 else min v (n : Int)) = (((if v < 0 then (v + (n : Int)).toNat else min v.toNat n) : Nat) : Int)
  by_cases hv : v < 0
  . simp only [if_pos hv]; omega
  . simp only [if_neg hv]; omega
theorem Yt (lo hi : Option Int) (n : Nat) : Builtin.Slice.sliceAdjust lo hi 1 (n : Int) = (((sIx n 0 lo : Nat) : Int), ((sIx n n hi : Nat) : Int)) := by
  have h1 : ¬ ((1 : Int) < 0) := by omega
  unfold Builtin.Slice.sliceAdjust
  simp only [h1, if_false]
  refine Prod.ext ?_ ?_
  . cases lo with
    | none => rfl
    | some v => exact Abq v n 0
  . cases hi with
    | none => rfl
    | some v => exact Abq v n n
theorem Yg (i j : Nat) : Builtin.Slice.slicePlaces (i : Int) (j : Int) 1 = j - i := by
  unfold Builtin.Slice.slicePlaces
  have h1 : (1 : Int) > 0 := by omega
  simp only [h1, if_true, Int.ediv_one]
  split <;> omega
theorem S7 {v : Value} {o : Option Int} {Q : Option Int -> Shared -> Prop} (p : IsPart v o) (h : Q o s) : wpAny (model prog w) A (Builtin.Slice.slicePartIndex v) Q E s := by
  cases p with
  | none => exact slicePart_none h
  | int i t => exact slicePart_int h
theorem Jo {sl : Addr} {vl vu : Value} {lo hi : Option Int} {n : Nat} {Q : Int × Int × Nat -> Shared -> Prop} (hs : s.heap.IsSliceOf sl vl vu .none) (pl : IsPart vl lo) (pu : IsPart vu hi)
    (h : Q (((sIx n 0 lo : Nat) : Int), 1, sIx n n hi - sIx n 0 lo) s) : wpAny (model prog w) A (Builtin.Slice.sliceApplied (.ref sl) (pure (n : Int))) Q E s := by
  obtain ⟨os, hos, hcs, hds⟩ := id hs
  unfold Builtin.Slice.sliceApplied Builtin.Slice.sliceFields
  refine wpAny_bind (wpAny_bind (wpAny_field hos hds (x := vl) rfl (wpAny_bind (wpAny_field hos hds (x := vu) rfl (wpAny_bind (wpAny_field hos hds (x := .none) rfl (wpAny_pure ?_)))))))
  refine wpAny_bind (slicePart_none ?_)
  show wpAny _ _ (if ((1 : Int) == 0) = true then _ else _) _ _ s
  rw [if_neg (by decide)]
  refine wpAny_bind (S7 pl (wpAny_bind (S7 pu (wpAny_bind (wpAny_pure ?_)))))
  show wpAny _ _ (match Builtin.Slice.sliceAdjust lo hi 1 (n : Int) with | (lo, hi) => pure (lo, (1 : Int), Builtin.Slice.slicePlaces lo hi 1)) _ _ s
  rw [Yt lo hi n]
  show wpAny _ _ (pure (((sIx n 0 lo : Nat) : Int), (1 : Int), Builtin.Slice.slicePlaces ((sIx n 0 lo : Nat) : Int) ((sIx n n hi : Nat) : Int) 1)) _ _ s
  rw [Yg]
  exact wpAny_pure h
theorem Adk (xs : Array Value) (i k : Nat) : ((List.range k).filterMap fun (m : Nat) => xs[((i : Int) + (m : Int) * 1).toNat]?).toArray = ((xs.toList.drop i).take k).toArray := by
  have e : (fun (m : Nat) => xs[((i : Int) + (m : Int) * 1).toNat]?) = fun m => xs[i + m]? := by
    funext m
    have : ((i : Int) + (m : Int) * 1).toNat = i + m := by omega
    rw [this]
  rw [e]
  have := pick_run xs i k
  rw [List.filterMap_map] at this
  have e2 : ((fun x => xs[x]?) ∘ fun x => i + x) = fun m => xs[i + m]? := rfl
  rw [e2] at this
  rw [this]
theorem Ou {t sl : Addr} {items : Array Value} {vl vu : Value} {lo hi : Option Int} {Q : Value -> Shared -> Prop} (ht : IsTup s.heap t items) (hs : s.heap.IsSliceOf sl vl vu .none) (pl : IsPart vl lo) (pu : IsPart vu hi)
    (hw : ¬ (sIx items.size 0 lo = 0 /\ sIx items.size items.size hi = items.size))
    (h : Q (.ref s.heap.objs.size) { s with heap := s.heap.push { cls := .type "tuple", data := .seq ((items.toList.drop (sIx items.size 0 lo)).take (sIx items.size items.size hi - sIx items.size 0 lo)).toArray } })
    (hsz : items.size <= sizeLine) : wpAny (model prog w) A (getItem (.ref t) (.ref sl)) Q E s := by
  have htake : sizeOk (.seq ((items.toList.drop (sIx items.size 0 lo)).take (sIx items.size items.size hi - sIx items.size 0 lo)).toArray) := by
    show ((items.toList.drop (sIx items.size 0 lo)).take (sIx items.size items.size hi - sIx items.size 0 lo)).toArray.size <= sizeLine
    rw [List.size_toArray, List.length_take, List.length_drop, Array.length_toList]
    omega
  have hj : sIx items.size items.size hi <= items.size := Ahr _ _ (Nat.le_refl _) hi
  obtain ⟨os, hos, hcs, hds⟩ := id hs
  have hTs : s.TypeIs (.ref sl) "slice" := ⟨os, hos, hcs⟩
  unfold getItem
  try with_reducible refine wpAny_holding ?_
  first | refine wpAny_bind (wpAny_pure ?_) | skip
  refine wpAny_bind (wpAny_sequenceKey ht.typeIs (by decide) ?_)
  refine wpAny_bind (wpAny_callSpecial?_slot (name := Str.ofString "__getitem__") ht.typeIs PyProof.Rows.slot_tuple_getitem
    (wpAny_call_entry PyProof.Rows.slot_tuple_getitem ht.typeIs entry_tuple_getitem ?_ (args_tuple_getitem _ _)))
  show wpAny _ _ (Builtin.Tuple.tupleItemsOf (.ref t) >>= _) _ _ s
  refine wpAny_bind (tupleItemsOf_ ht ?_)
  refine wpAny_bind (wpAny_typeOf hTs ?_)
  rw [if_pos (by decide)]
  refine wpAny_bind (Jo hs pl pu ?_)
  have hno : ¬ ((((sIx items.size 0 lo : Nat) : Int) == 0 && (1 : Int) == 1 && (sIx items.size items.size hi - sIx items.size 0 lo) == items.size) = true) := by
    intro q
    rw [Bool.and_eq_true, Bool.and_eq_true] at q
    have q1 : ((sIx items.size 0 lo : Nat) : Int) = 0 := eq_of_beq q.1.1
    have q2 : sIx items.size items.size hi - sIx items.size 0 lo = items.size := eq_of_beq q.2
    exact hw ⟨by omega, by omega⟩
  show wpAny _ _ (if (((sIx items.size 0 lo : Nat) : Int) == 0 && (1 : Int) == 1 && (sIx items.size items.size hi - sIx items.size 0 lo) == items.size) = true then _ else _) _ _ s
  rw [if_neg hno, Adk]
  first
    | exact wpAny_bind (m := Builtin.Tuple.tupleExact _) (wpAny_newObj_type (wpAny_pure ⟨_, rfl, wpAny_pure h⟩) htake)
    | exact wpAny_bind (m := Builtin.Tuple.tupleExact _) (wpAny_newObj_type (wpAny_bind (wpAny_pure (wpAny_pure ⟨_, rfl, wpAny_pure h⟩))) htake)
    | exact wpAny_bind (wpAny_bind (m := Builtin.Tuple.tupleExact _) (wpAny_newObj_type (wpAny_pure (wpAny_pure ⟨_, rfl, wpAny_pure h⟩)) htake))
    | exact wpAny_bind (wpAny_bind (m := Builtin.Tuple.tupleExact _) (wpAny_newObj_type (wpAny_pure ⟨_, rfl, wpAny_pure h⟩) htake))
end
end HT
namespace L2
open PySem PySem.Spec PyProof.Rows
abbrev TO := St -> Hp -> (Option Int -> Hp -> Prop) -> Prop
def PO (X : Cx) (e : Option Expr) (t : TO) : Prop :=
  ∀ (pins : List (Addr × Obj)) (s : Shared) (σ : St) (H : Hp) (Q : Option Int -> Hp -> Prop), Inv X pins σ H s -> t σ H Q ->
    wpAny (model X.prog X.w) X.A (evalPart e X.env) (fun u s' => ∃ o H', Inv X pins σ H' s' /\ IsPart u o /\ Q o H') X.xe s
def V6 : TO := fun _ H Q => Q none H
def Agy (t : TE) : TO := fun σ H Q => t σ H fun x H1 => ∃ i, x = .int i /\ Q (some i) H1
section
variable {X : Cx} {e : Expr} {te : TE} {lo hi : Option Expr} {tl th : TO} {pos p2 : Pos}
theorem N5 : PO X none V6 := by
  intro pins s σ H Q I h
  rw [evalPart_none]
  exact wpAny_pure ⟨none, H, I, .none, h⟩
theorem Og (h : PE X e te) : PO X (some e) (Agy te) := by
  intro pins s σ H Q I hw
  rw [evalPart_some]
  refine thn (h pins s σ H _ I hw) fun u s1 ⟨x, H1, I1, r1, q1⟩ => ?_
  obtain ⟨i, rfl, q⟩ := q1
  obtain ⟨t, rfl⟩ := r1
  exact ⟨some i, H1, I1, .int i t, q⟩
def SlR (X : Cx) (r : V -> Option Int -> Option Int -> Hp -> VK -> Prop) : Prop :=
  ∀ (pins : List (Addr × Obj)) (s : Shared) (σ : St) (H : Hp) (x : V) (v vl vu : Value) (lo hi : Option Int) (sl : Addr) (Q : VK), Inv X pins σ H s -> RelV x v -> s.heap.IsSliceOf sl vl vu .none -> IsPart vl lo -> IsPart vu hi -> r x lo hi H Q ->
    ∃ T id, typeLookup (.type T) "__getitem__" = pure (some (.builtin id)) /\ s.TypeIs v T /\ wpAny (model X.prog X.w) X.A (getItem v (.ref sl)) (EP X pins σ Q) X.xe s
theorem SlR.or {r r' : V -> Option Int -> Option Int -> Hp -> VK -> Prop} (h : SlR X r) (h' : SlR X r') : SlR X (fun x lo hi H Q => r x lo hi H Q \/ r' x lo hi H Q) := by
  intro pins s σ H x v vl vu lo hi sl Q I rx hs pl pu q
  rcases q with q | q
  . exact h pins s σ H x v vl vu lo hi sl Q I rx hs pl pu q
  . exact h' pins s σ H x v vl vu lo hi sl Q I rx hs pl pu q
def tSl (r : V -> Option Int -> Option Int -> Hp -> VK -> Prop) (te : TE) (tl th : TO) : TE := fun σ H Q => te σ H fun x H1 => tl σ H1 fun l H2 => th σ H2 fun u H3 => r x l u H3 Q
theorem Kf {r : V -> Option Int -> Option Int -> Hp -> VK -> Prop} (hr : SlR X r) (he : PE X e te) (hl : PO X lo tl) (hu : PO X hi th) : PE X (.Subscript e (.Slice lo hi none p2) pos) (tSl r te tl th) := by
  intro pins s σ H Q I h
  refine Subscript_ (thn (he pins s σ H _ I h) fun v s1 ⟨x, H1, I1, r1, q1⟩ => ?_)
  refine wpAny_Slice (thn (hl pins s1 σ H1 _ I1 q1) fun vl s2 ⟨l, H2, I2, pl, q2⟩ => thn (hu pins s2 σ H2 _ I2 q2) fun vu s3 ⟨u, H3, I3, pu, q3⟩ => ?_)
  rw [evalPart_none]
  refine wpAny_pure ?_
  have I4 : Inv X pins σ H3 { s3 with heap := s3.heap.push { cls := .type "slice", data := .fields #[vl, vu, .none] } } := I3.kept (t' := s3.toks) fun b ob q => Heap.get?_push_of_some _ q
  obtain ⟨T, id, hT, ht, hg⟩ := hr pins { s3 with heap := s3.heap.push { cls := .type "slice", data := .fields #[vl, vu, .none] } } σ H3 x v vl vu l u s3.heap.objs.size Q I4 r1 (Heap.IsSliceOf.new ..) pl pu q3
  show wpAny (model X.prog X.w) X.A (subscriptTail e (.Slice lo hi none p2) v (.ref s3.heap.objs.size)) (EP X pins σ Q) X.xe { s3 with heap := s3.heap.push { cls := .type "slice", data := .fields #[vl, vu, .none] } }
  exact tail_any (ops := [.ref s3.heap.objs.size, v]) ht hT hg (by with_unfolding_all rfl)
def T8 (xs : List V) (lo hi : Option Int) : List V := (xs.drop (HT.sIx xs.length 0 lo)).take (HT.sIx xs.length xs.length hi - HT.sIx xs.length 0 lo)
theorem Py (xs : List V) (lo hi : Option Int) : (T8 xs lo hi).length <= xs.length := by
  unfold T8
  rw [List.length_take, List.length_drop]
  omega
def Ak0 (K : PySem.W.Frag) : V -> Option Int -> Option Int -> Hp -> VK -> Prop := fun x lo hi H Q => ∃ a xs, x = .ref a /\ SqT K H a xs /\
  ¬ (HT.sIx xs.length 0 lo = 0 /\ HT.sIx xs.length xs.length hi = xs.length) /\ ∀ p, H p = none -> Q (.ref p) (upd H p (.tup (T8 xs lo hi)))
theorem Ahz : SlR X (Ak0 X.K) := by
  intro pins s σ H x v vl vu lo hi sl Q I rx hs pl pu h
  obtain ⟨a, xs, rfl, hx, hw, q⟩ := h
  cases rx
  obtain ⟨its, r, ht, hz⟩ := I.tuple hx
  have hlen : its.toArray.size = xs.length := by rw [List.size_toArray]; exact r.length.symm
  refine ⟨"tuple", _, PyProof.Rows.slot_tuple_getitem.lookup, ht.typeIs, ?_⟩
  refine HT.Ou ht hs pl pu (by rw [hlen]; exact hw) ?_ (by rw [hlen]; exact hz)
  rw [hlen]
  refine ⟨.ref s.heap.objs.size, _, I.laid (t' := s.toks) (o := .tup (T8 xs lo hi)) (fun b ob q => Heap.get?_push_of_some _ q) (Nat.le_refl _) ?_, rfl, q _ (I.hok.fresh (Nat.le_refl _))⟩
  exact ⟨Nat.le_trans (Py xs lo hi) hz, _, (r.drop (HT.sIx xs.length 0 lo)).take (HT.sIx xs.length xs.length hi - HT.sIx xs.length 0 lo), IsTup.new _ _⟩
def Aj7 (K : PySem.W.Frag) : R2 := fun x y H Q => ∃ a b xs ys, x = .ref a /\ y = .ref b /\ SqT K H a xs /\ SqT K H b ys /\ xs ≠ [] /\ xs.length + ys.length <= sizeLine /\
  (ys = [] -> Q (.ref a) H) /\ (ys ≠ [] -> ∀ p, H p = none -> Q (.ref p) (upd H p (.tup (xs ++ ys))))
theorem Vals.nil_iff {xs : List V} {us : List Value} (r : Vals xs us) : us = [] ↔ xs = [] := by
  cases r with
  | nil => simp
  | cons _ _ => simp
theorem Ago : OpR X (binaryOp .Add) (Aj7 X.K) := by
  intro pins s σ H x y v u Q I rx ry h
  obtain ⟨a, b, xs, ys, rfl, rfl, ha, hb, hx, hz, q1, q2⟩ := h
  cases rx
  cases ry
  obtain ⟨its, r1, p1, _⟩ := I.tuple ha
  obtain ⟨its2, r2, p2, _⟩ := I.tuple hb
  refine HT.Afr p1 p2 (fun z => hx (r1.nil_iff.mp z)) (fun z => ⟨.ref a, H, I, rfl, q1 (r2.nil_iff.mp z)⟩) (fun z => ?_) (by rw [<- r1.length, <- r2.length]; exact hz)
  refine ⟨.ref s.heap.objs.size, _, I.laid (t' := s.toks) (o := .tup (xs ++ ys)) (fun b ob q => Heap.get?_push_of_some _ q) (Nat.le_refl _) ?_, rfl, q2 (fun w => z (r2.nil_iff.mpr w)) _ (I.hok.fresh (Nat.le_refl _))⟩
  exact ⟨by rw [List.length_append]; exact hz, _, r1.append r2, IsTup.new _ _⟩
end
end L2
namespace L2
open PySem PySem.Spec PyProof.Rows
def ixN (n : Nat) (i : Int) : Option Nat := if 0 <= i then (if i < n then some i.toNat else none) else if -(n : Int) <= i then some (i + n).toNat else none
def atI {α : Type} (xs : List α) (i : Int) : Option α := (ixN xs.length i).bind fun j => xs[j]?
theorem Aad {n : Nat} {i : Int} {j : Nat} (h : ixN n i = some j) : seqIndex? i n = some j /\ j < n /\ -(n : Int) <= i /\ i < n := by
  unfold ixN at h
  by_cases h0 : 0 <= i
  . rw [if_pos h0] at h
    by_cases h1 : i < n
    . rw [if_pos h1] at h
      have e : i.toNat = j := Option.some.inj h
      exact ⟨by rw [seqIndex_of h0 h1, e], by omega, by omega, h1⟩
    . rw [if_neg h1] at h; cases h
  . rw [if_neg h0] at h
    by_cases h1 : -(n : Int) <= i
    . rw [if_pos h1] at h
      have e : (i + n).toNat = j := Option.some.inj h
      exact ⟨by rw [seqIndex_neg (by omega) h1, e], by omega, h1, by omega⟩
    . rw [if_neg h1] at h; cases h
theorem Aam {α : Type} {xs : List α} {i : Int} {v : α} (h : atI xs i = some v) : ∃ j, seqIndex? i xs.length = some j /\ xs[j]? = some v /\ j < xs.length /\ -(xs.length : Int) <= i /\ i < xs.length := by
  unfold atI at h
  cases e : ixN xs.length i with
  | none => rw [e] at h; cases h
  | some j =>
    rw [e] at h
    obtain ⟨h1, h2, h3, h4⟩ := Aad e
    exact ⟨j, h1, h, h2, h3, h4⟩
theorem Jz {α : Type} {xs : List α} {j : Nat} {v : α} (h : xs[j]? = some v) : atI xs (j : Int) = some v := by
  have hj : j < xs.length := (List.getElem?_eq_some_iff.mp h).1
  have e : ixN xs.length (j : Int) = some j := by
    unfold ixN
    rw [if_pos (by omega), if_pos (by omega)]; simp
  unfold atI; rw [e]; exact h
theorem Xi {α : Type} (xs : List α) (v : α) : atI (xs ++ [v]) (-1) = some v := by
  have hl : (xs ++ [v]).length = xs.length + 1 := by simp
  have e : ixN (xs ++ [v]).length (-1) = some xs.length := by
    unfold ixN
    rw [hl, if_neg (by decide), if_pos (by omega)]
    congr 1
    omega
  unfold atI
  rw [e]
  show (xs ++ [v])[xs.length]? = some v
  simp
def Aai (b : Expr) : Prop := ∀ o i, subscripted b false o i = operate [o, i] (getItem o i)
def IxR (X : Cx) (r : R2) : Prop :=
  ∀ (value slice : Expr) (pins : List (Addr × Obj)) (s : Shared) (σ : St) (H : Hp) (x y : V) (v u : Value) (Q : VK), Inv X pins σ H s -> RelV x v -> RelV y u -> r x y H Q ->
    subscripted slice false v u = operate [v, u] (getItem v u) -> wpAny (model X.prog X.w) X.A (subscriptTail value slice v u) (EP X pins σ Q) X.xe s
def MtR (X : Cx) (id : String) (r : V -> List V -> Hp -> VK -> Prop) : Prop :=
  ∀ (pins : List (Addr × Obj)) (s : Shared) (σ : St) (H : Hp) (x : V) (xs : List V) (v : Value) (us : List Value) (Q : VK), Inv X pins σ H s -> RelV x v -> Vals xs us -> r x xs H Q ->
    wpAny (model X.prog X.w) X.A (call (.builtin id) (v :: us)) (EP X pins σ Q) X.xe s
section
variable {X : Cx} {a b : Expr} {ta tb : TE} {pos : Pos}
theorem IxR.or {r r' : R2} (h : IxR X r) (h' : IxR X r') : IxR X (fun x y H Q => r x y H Q \/ r' x y H Q) := by
  intro value slice pins s σ H x y v u Q I rx ry q hs
  rcases q with q | q
  . exact h value slice pins s σ H x y v u Q I rx ry q hs
  . exact h' value slice pins s σ H x y v u Q I rx ry q hs
theorem MtR.or {id : String} {r r' : V -> List V -> Hp -> VK -> Prop} (h : MtR X id r) (h' : MtR X id r') : MtR X id (fun x xs H Q => r x xs H Q \/ r' x xs H Q) := by
  intro pins s σ H x xs v us Q I rx rs q
  rcases q with q | q
  . exact h pins s σ H x xs v us Q I rx rs q
  . exact h' pins s σ H x xs v us Q I rx rs q
theorem Bo {r : R2} (hr : IxR X r) (ha : PE X a ta) (hb : PE X b tb) (hs : Aai b) : PE X (.Subscript a b pos) (tOp r ta tb) := by
  intro pins s σ H Q I h
  exact Subscript_ (Ajx ha hb I h fun v u s2 x y H2 I2 rx ry q => hr a b pins s2 σ H2 x y v u Q I2 rx ry q (hs _ _))
def Ajz (K : PySem.W.Frag) : R2 := fun x y H Q => ∃ p xs i v, x = .ref p /\ y = .int i /\ SqL K H p xs /\ atI xs i = some v /\ Q v H
def Akj (K : PySem.W.Frag) : R2 := fun x y H Q => ∃ p xs i v, x = .ref p /\ y = .int i /\ SqT K H p xs /\ atI xs i = some v /\ Q v H
theorem Fg : IxR X (Ajz X.K) := by
  intro value slice pins s σ H x y v u Q I rx ry h hs
  obtain ⟨p, xs, i, z, rfl, rfl, hq, he, q⟩ := h
  cases rx
  obtain ⟨t, rfl⟩ := ry
  obtain ⟨its, r, pl, hz⟩ := I.list hq
  obtain ⟨j, h1, h2, h3, h4, h5⟩ := Aam he
  obtain ⟨w, ew, rw'⟩ := r.get h2
  have hl := r.length
  have hn := R6
  have fin : EP X pins σ Q w s := ⟨z, H, I, rw', q⟩
  by_cases h0 : 0 <= i
  . have hj : i.toNat = j := by
      rw [seqIndex_of h0 h5] at h1
      exact Option.some.inj h1
    exact item_listR pl.isList h0 (by omega) (by rw [hj]; simpa using ew) fin hs
  . have hj : (i + (its.toArray.size : Int)).toNat = j := by
      rw [seqIndex_neg (by omega) h4] at h1
      rw [List.size_toArray, <- hl]
      exact Option.some.inj h1
    exact subscriptTail_builtinR (x := w) pl.isList.typeIs slot_list_getitem.lookup
      (wpAny_getItem_list_neg (Q := fun r s' => r = w /\ EP X pins σ Q r s') pl.isList (by omega) (by rw [List.size_toArray] <;> omega) (by omega) (by rw [hj]; simpa using ew) ⟨rfl, fin⟩) hs
theorem Az : IxR X (Akj X.K) := by
  intro value slice pins s σ H x y v u Q I rx ry h hs
  obtain ⟨p, xs, i, z, rfl, rfl, hq, he, q⟩ := h
  cases rx
  obtain ⟨t, rfl⟩ := ry
  obtain ⟨its, r, pl, hz⟩ := I.tuple hq
  obtain ⟨j, h1, h2, h3, h4, h5⟩ := Aam he
  obtain ⟨w, ew, rw'⟩ := r.get h2
  have hl := r.length
  have hn := R6
  have fin : EP X pins σ Q w s := ⟨z, H, I, rw', q⟩
  exact subscriptTail_builtinR (x := w) pl.typeIs slot_tuple_getitem.lookup
    (getItem_tuple (j := j) (Q := fun r s' => r = w /\ EP X pins σ Q r s') pl (by omega) (by omega) (by rw [List.size_toArray, <- hl]; exact h1) (by simpa using ew) ⟨rfl, fin⟩) hs
theorem Yi (its : List Value) (n j : Nat) (u : Value) : Obj.mapSeq (·.setIfInBounds j u) { cls := .type "list", data := .seq its.toArray n } = { cls := .type "list", data := .seq (its.set j u).toArray n } := by
  simp [Obj.mapSeq]
theorem Inv.lst {pins : List (Addr × Obj)} {σ : St} {H : Hp} {s : Shared} {p : Addr} {xs : List V} (I : Inv X pins σ H s) (h : H p = some (.lst xs)) :
    ∃ (its : List Value) (n : Nat), Vals xs its /\ s.heap.get? p = some { cls := .type "list", data := .seq its.toArray n } /\ xs.length <= sizeLine := by
  obtain ⟨z, its, n, r, e⟩ := I.hok p _ h
  exact ⟨its, n, r, e, z⟩
theorem Inv.lstUpd {pins : List (Addr × Obj)} {σ : St} {H : Hp} {s : Shared} {p : Addr} {xs ys : List V} {its its' : List Value} {n n' : Nat} {f : Obj -> Obj} (I : Inv X pins σ H s) (h : H p = some (.lst xs))
    (ho : s.heap.get? p = some { cls := .type "list", data := .seq its.toArray n }) (hf : f { cls := .type "list", data := .seq its.toArray n } = { cls := .type "list", data := .seq its'.toArray n' }) (r : Vals ys its') (hz : ys.length <= sizeLine) (t : Nat) :
    Inv X pins σ (upd H p (.lst ys)) { s with heap := s.heap.update p f, toks := t } := by
  have e : (s.heap.update p f).get? p = some { cls := .type "list", data := .seq its'.toArray n' } := by
    rw [Heap.get?_update_self f ho (by rw [hf] <;> rfl), hf]
  refine I.write (x := p) (e := p) (by rw [h]; trivial) (.inl rfl) (fun b u hb q => (Heap.get?_update_other _ _ (Ne.symm hb)).trans q) ⟨_, e⟩ ?_
  exact ⟨hz, its', n', r, e⟩
def Ah0 : V -> V -> V -> Hp -> (Hp -> Prop) -> Prop := fun o i v H Q => ∃ p xs k j, o = .ref p /\ i = .int k /\ H p = some (.lst xs) /\ ixN xs.length k = some j /\ Q (upd H p (.lst (xs.set j v)))
theorem set_list : Ajo X Ah0 := by
  intro pins s σ H o i v ov iv u Q I ro ri rv h
  obtain ⟨p, xs, k, j, rfl, rfl, hp, hj, q⟩ := h
  cases ro
  obtain ⟨t, rfl⟩ := ri
  obtain ⟨its, n, r, ho, hz⟩ := I.lst hp
  obtain ⟨h1, h2, h3, h4⟩ := Aad hj
  have hl := r.length
  have hn := R6
  have I' : Inv X pins σ (upd H p (.lst (xs.set j v))) { s with heap := s.heap.update p (Obj.mapSeq (·.setIfInBounds j u)) } :=
    I.lstUpd hp ho (Yi its n j u) (r.set rv j) (by rw [List.length_set]; exact hz) s.toks
  by_cases h0 : 0 <= k
  . have hk : k.toNat = j := by
      rw [seqIndex_of h0 h4] at h1
      exact Option.some.inj h1
    exact PySem.W.ki_setAt ho h0 (by omega) (by rw [List.size_toArray, <- hl]; exact h4) (by rw [hk]; exact ⟨_, I', q⟩)
  . have hk : (k + (its.toArray.size : Int)).toNat = j := by
      rw [seqIndex_neg (by omega) h3] at h1
      rw [List.size_toArray, <- hl]
      exact Option.some.inj h1
    exact PySem.W.ki_setBack ho (by omega) (by rw [List.size_toArray, <- hl]; exact h3) (by omega) (by rw [hk]; exact ⟨_, I', q⟩)
theorem U6 (lo hi : Option Int) (n : Nat) : (sliceBounds lo hi none n).1 = ((HT.sIx n 0 lo : Nat) : Int) /\ (sliceBounds lo hi none n).2.1 = ((HT.sIx n n hi : Nat) : Int) /\ (sliceBounds lo hi none n).2.2 = 1 := by
  refine ⟨?_, ?_, rfl⟩
  . cases lo with
    | none => simp [sliceBounds, HT.sIx]
    | some i =>
      simp only [sliceBounds, HT.sIx, Option.getD_none, show (1 : Int) > 0 by decide, if_true]
      by_cases h : i < 0
      . simp only [h, if_true] <;> omega
      . simp only [h, if_false] <;> omega
  . cases hi with
    | none => simp [sliceBounds, HT.sIx]
    | some i =>
      simp only [sliceBounds, HT.sIx, Option.getD_none, show (1 : Int) > 0 by decide, if_true]
      by_cases h : i < 0
      . simp only [h, if_true] <;> omega
      . simp only [h, if_false] <;> omega
theorem Uc (its : List Value) (lo hi : Option Int) : slicePick its.toArray lo hi none = ((its.drop (HT.sIx its.length 0 lo)).take (HT.sIx its.length its.length hi - HT.sIx its.length 0 lo)).toArray := by
  obtain ⟨h1, h2, h3⟩ := U6 lo hi its.toArray.size
  unfold slicePick
  rw [h1, h2, h3]
  simp only [sliceRange_one, pick_run, List.size_toArray] <;> rfl
def Akq (K : PySem.W.Frag) : V -> Option Int -> Option Int -> Hp -> VK -> Prop := fun x lo hi H Q => ∃ a xs, x = .ref a /\ SqL K H a xs /\ ∀ p, H p = none -> Q (.ref p) (upd H p (.lst (T8 xs lo hi)))
theorem Ae7 : SlR X (Akq X.K) := by
  intro pins s σ H x v vl vu lo hi sl Q I rx hs pl pu h
  obtain ⟨a, xs, rfl, hx, q⟩ := h
  cases rx
  obtain ⟨its, r, ht, hz⟩ := I.list hx
  have hlen := r.length
  refine ⟨"list", _, slot_list_getitem.lookup, ht.isList.typeIs, ?_⟩
  refine wpAny_getItem_list_slice ht.isList hs pl pu .none (by simp) ?_ (by rw [List.size_toArray] <;> omega)
  rw [Uc, <- hlen]
  refine ⟨.ref s.heap.objs.size, _, I.laid (t' := s.toks) (o := .lst (T8 xs lo hi)) (fun b ob q => Heap.get?_push_of_some _ q) (Nat.le_refl _) ?_, rfl, q _ (I.hok.fresh (Nat.le_refl _))⟩
  exact ⟨Nat.le_trans (Py xs lo hi) hz, _, 0, (r.drop (HT.sIx xs.length 0 lo)).take (HT.sIx xs.length xs.length hi - HT.sIx xs.length 0 lo), Heap.get?_push_size _ rfl⟩
theorem Aw : Ik X (.builtin "len") (fun xs H Q => ∃ p ys, xs = [.ref p] /\ (SqL X.K H p ys \/ SqT X.K H p ys) /\ Q (.int ys.length) H) := by
  intro pins s σ H xs us Q I r h
  obtain ⟨p, ys, rfl, hq, q⟩ := h
  obtain ⟨u, rfl, rx⟩ := vals1 r
  cases rx
  have hn := R6
  rcases hq with hq | hq
  . obtain ⟨its, r', pl, hz⟩ := I.list hq
    have hlen := r'.length
    exact Calls.call_len_list pl.isList (by simp only [List.size_toArray] <;> omega) ⟨.int ys.length, H, I.tok _, ⟨s.toks + 1, by rw [List.size_toArray, hlen]⟩, q⟩
  . obtain ⟨its, r', pl, hz⟩ := I.tuple hq
    have hlen := r'.length
    exact len_tuple pl (by simp only [List.size_toArray] <;> omega) ⟨.int ys.length, H, I.tok _, ⟨s.toks + 1, by rw [List.size_toArray, hlen]⟩, q⟩
theorem Ik.or {f : Value} {r r' : List V -> Hp -> VK -> Prop} (h : Ik X f r) (h' : Ik X f r') : Ik X f (fun xs H Q => r xs H Q \/ r' xs H Q) := by
  intro pins s σ H xs us Q I rs q
  rcases q with q | q
  . exact h pins s σ H xs us Q I rs q
  . exact h' pins s σ H xs us Q I rs q
theorem Eu : Ik X (.type "list") (fun xs H Q => ∃ p ys, xs = [.ref p] /\ (SqL X.K H p ys \/ SqT X.K H p ys) /\ ∀ l, H l = none -> Q (.ref l) (upd H l (.lst ys))) := by
  intro pins s σ H xs us Q I r h
  obtain ⟨p, ys, rfl, hq, q⟩ := h
  obtain ⟨u, rfl, rx⟩ := vals1 r
  cases rx
  have fin : ∀ (its : List Value), Vals ys its -> ys.length <= sizeLine -> ∀ (h' : Heap) (c' : Nat), (∀ b o', s.heap.get? b = some o' -> h'.get? b = some o') ->
      h'.get? s.heap.objs.size = some { cls := .type "list", dict := none, data := .seq its.toArray c', slots := #[] } -> EP X pins σ Q (.ref s.heap.objs.size) { s with heap := h' } := fun its r' hz h' c' kp e =>
    ⟨.ref s.heap.objs.size, _, I.laid (t' := s.toks) kp (Nat.le_refl _) (show Ho X.prog X.w _ h' _ (.lst ys) from ⟨hz, its, c', r', e⟩), rfl, q _ (I.hok.fresh (Nat.le_refl _))⟩
  rcases hq with hq | hq
  . obtain ⟨its, r', pl, hz⟩ := I.list hq
    have hlen := r'.length
    obtain ⟨o, ho, hc, n, hd⟩ := pl.isList
    exact call_list_seq p (.inl rfl) ho hc hd (fun h' c' kp e => fin its r' hz h' c' kp e) (by simp only [List.size_toArray] <;> omega)
  . obtain ⟨its, r', pl, hz⟩ := I.tuple hq
    have hlen := r'.length
    obtain ⟨o, ho, hc, n, hd⟩ := pl
    exact call_list_seq p (.inr rfl) ho hc hd (fun h' c' kp e => fin its r' hz h' c' kp e) (by simp only [List.size_toArray] <;> omega)
theorem El : Ik X (.type "tuple") (fun xs H Q => ∃ p ys, xs = [.ref p] /\ ((SqL X.K H p ys /\ ∀ l, H l = none -> Q (.ref l) (upd H l (.tup ys))) \/ (SqT X.K H p ys /\ Q (.ref p) H))) := by
  intro pins s σ H xs us Q I r h
  obtain ⟨p, ys, rfl, h⟩ := h
  obtain ⟨u, rfl, rx⟩ := vals1 r
  cases rx
  rcases h with ⟨hq, q⟩ | ⟨hq, q⟩
  . obtain ⟨its, r', pl, hz⟩ := I.list hq
    have hlen := r'.length
    refine call_tuple_list pl.isList (fun h' kp => ?_) (by simp only [List.size_toArray] <;> omega)
    have I1 : Inv X pins σ H { s with heap := h' } := I.kept (t' := s.toks) kp
    have I2 : Inv X pins σ (upd H h'.objs.size (.tup ys)) { s with heap := h'.push { cls := .type "tuple", data := .seq its.toArray } } :=
      I1.laid (t' := s.toks) (fun b o e => Heap.get?_push_of_some _ e) (Nat.le_refl _) (show Ho X.prog X.w _ _ _ (.tup ys) from ⟨hz, its, r', IsTup.new _ _⟩)
    exact ⟨.ref h'.objs.size, _, I2, rfl, q _ (I1.hok.fresh (Nat.le_refl _))⟩
  . obtain ⟨its, r', pl, hz⟩ := I.tuple hq
    exact call_tuple_same pl ⟨.ref p, H, I, rfl, q⟩
def tyV (K : PySem.W.Frag) (T : String) (x : V) (H : Hp) : Prop := match x with
  | .str _ => T = "str"
  | .int _ => T = "int"
  | .ref p => (T = "list" /\ ∃ xs, SqL K H p xs) \/ (T = "tuple" /\ ∃ o, K.lookup p = some o /\ o.cls = .type "tuple" /\ o.dict = none) \/
      (T = "dict" /\ ((∃ kvs, H p = some (.dK kvs)) \/ ∃ kvs, H p = some (.dT kvs))) \/ (T = "set" /\ ∃ S n, H p = some (.set S n))
  | _ => False
theorem Ah3 {pins : List (Addr × Obj)} {σ : St} {H : Hp} {s : Shared} {T : String} {x : V} {v : Value} (I : Inv X pins σ H s) (r : RelV x v) (ty : tyV X.K T x H) :
    s.TypeIs v T /\ ∀ a, v = .ref a -> ∃ ob, s.heap.get? a = some ob /\ ob.dict = none := by
  cases x with
  | str z =>
    obtain ⟨t, rfl⟩ := r
    cases (show T = "str" from ty)
    exact ⟨typeIs_str s z t, fun _ e => nomatch e⟩
  | int i =>
    obtain ⟨t, rfl⟩ := r
    cases (show T = "int" from ty)
    exact ⟨typeIs_int s i t, fun _ e => nomatch e⟩
  | ref p =>
    cases r
    rcases ty with ⟨rfl, xs, hq⟩ | ⟨rfl, o, hk, hc, hd⟩ | ⟨rfl, hk⟩ | ⟨rfl, S, n, hk⟩
    . obtain ⟨its, _, pl, _⟩ := I.list hq
      refine ⟨pl.isList.typeIs, fun a e => ?_⟩
      cases e
      obtain ⟨o, n, e, c, hd, _⟩ := pl
      exact ⟨o, e, hd⟩
    . refine ⟨⟨o, I.kIn p o hk, hc⟩, fun a e => ?_⟩
      cases e
      exact ⟨o, I.kIn _ o hk, hd⟩
    . have z : ∃ o, s.heap.get? p = some o /\ o.ExactDict := by
        rcases hk with ⟨kvs, hk⟩ | ⟨kvs, hk⟩
        . obtain ⟨_, _, _, _, o, _, _, e, ex, _⟩ := I.hok p _ hk
          exact ⟨o, e, ex⟩
        . obtain ⟨_, _, _, _, o, _, _, e, ex, _⟩ := I.hok p _ hk
          exact ⟨o, e, ex⟩
      obtain ⟨o, e, ex⟩ := z
      refine ⟨⟨o, e, ex.1⟩, fun a e2 => ?_⟩
      cases e2
      exact ⟨o, e, ex.2.1⟩
    . obtain ⟨o, _, _, _, e, ex, _⟩ := I.hok p _ hk
      refine ⟨⟨o, e, ex.1⟩, fun a e2 => ?_⟩
      cases e2
      exact ⟨o, e, ex.2.1⟩
  | _ => exact False.elim ty
def Ak4 (K : PySem.W.Frag) (T : String) (r : V -> List V -> Hp -> VK -> Prop) (to : TE) : TE := fun σ H Q => to σ H fun x H1 => tyV K T x H1 /\ r x [] H1 Q
def tBM (K : PySem.W.Frag) (T : String) (r : V -> List V -> Hp -> VK -> Prop) (to : TE) (t : TA) : TE := fun σ H Q => to σ H fun x H1 => tyV K T x H1 /\ t σ H1 fun xs H2 => r x xs H2 Q
variable {o e : Expr} {es : List Expr} {to : TE} {t : TA} {name : Str} {apos cpos : Pos} {T id : String} {r : V -> List V -> Hp -> VK -> Prop}
theorem Rv (pa : PlainAttrs T) (slot : Slot T name id) (hty : typeOf (.builtin id) = pure (.type "method_descriptor")) (hm : MtR X id r) (ho : PE X o to) (ha : PA X (e :: es) t)
    (hbase : attributeBase o name X.env (eval o X.env) = eval o X.env := by rfl)
    (hfew : ((backTo cpos (starEach (e :: es) X.env)).all (fun x => !x.1) && (backToKw cpos (keywordEach [] X.env)).all (fun x => x.1.isSome)
      && decide ((e :: es).length + ([] : List Keyword).length + (if ([] : List Keyword).isEmpty then 0 else 1) < 30)) = true := by rfl)
    (hline : (apos.endLine == cpos.line) = true := by rfl) (hs : starEach (e :: es) X.env = (false, eval e X.env) :: starEach es X.env := by rfl) (hplain : (backTo cpos (starEach es X.env)).any (·.1) = false := by rfl) :
    PE X (.Call (.Attribute o name apos) (e :: es) [] cpos) (tBM X.K T r to t) := by
  intro pins s σ H Q I h
  refine wpAny_Call_method_late hbase hfew hline rfl (thn (ho pins s σ H _ I h) fun v s1 ⟨x, H1, I1, r1, ty, q1⟩ => ?_)
  obtain ⟨h1, h2⟩ := Ah3 I1 r1 ty
  refine ⟨T, id, pa, slot, hty, h1, h2, ?_⟩
  have hA := ha cpos pins s1 σ H1 _ I1 q1
  rw [hs] at hA ⊢
  refine Calls.callWith_builtin (by show (false || (backTo cpos (starEach es X.env)).any (·.1)) = false; rw [hplain] <;> rfl) (Calls.evalArgs_plain ?_)
  exact thn hA fun us s2 ⟨vs, H2, I2, r2, q2⟩ => hm pins s2 σ H2 x vs v us Q I2 r1 r2 q2
/- xs.append(e), list.index on a module's tuple .. are MtR facts of 06m -/
end
end L2
namespace L2
open PySem PySem.Spec PyProof.Rows
def MtM (X : Cx) (id : String) (r : V -> List V -> Hp -> VK -> Prop) : Prop :=
  ∀ (pins : List (Addr × Obj)) (s : Shared) (σ : St) (H : Hp) (x : V) (xs : List V) (v : Value) (us : List Value) (Q : VK), Inv X pins σ H s -> RelV x v -> Vals xs us -> r x xs H Q ->
    wpAny (model X.prog X.w) X.A (call (.builtin id) (v :: us)) (EP X pins σ Q) X.xe s
theorem Vals.one : ∀ {x : V} {us : List Value}, Vals [x] us -> ∃ u, us = [u] /\ RelV x u
  | _, _, .cons r .nil => ⟨_, rfl, r⟩
theorem Vals.two : ∀ {x y : V} {us : List Value}, Vals [x, y] us -> ∃ u v, us = [u, v] /\ RelV x u /\ RelV y v
  | _, _, _, .cons r (.cons q .nil) => ⟨_, _, rfl, r, q⟩
theorem Vals.zero : ∀ {us : List Value}, Vals [] us -> us = []
  | _, .nil => rfl
theorem Vals.dropLast {xs : List V} {us : List Value} (h : Vals xs us) : Vals xs.dropLast us.dropLast := by
  induction h with
  | nil => exact .nil
  | cons r t ih =>
    cases t with
    | nil => exact .nil
    | cons q t' => exact .cons r ih
theorem Vals.reverse {xs : List V} {us : List Value} (h : Vals xs us) : Vals xs.reverse us.reverse := by
  induction h with
  | nil => exact .nil
  | cons r t ih => rw [List.reverse_cons, List.reverse_cons]; exact Vals.append ih (.cons r .nil)
theorem Vals.rep {xs : List V} {us : List Value} (h : Vals xs us) : ∀ k : Nat, Vals (List.replicate k xs).flatten (List.replicate k us).flatten
  | 0 => .nil
  | k + 1 => by
    rw [List.replicate_succ, List.replicate_succ, List.flatten_cons, List.flatten_cons]
    exact Vals.append h (Vals.rep h k)
theorem foldl_rep (its : List Value) : ∀ (k : Nat) (acc : List Value),
    List.foldl (fun x1 x2 => x1 ++ x2) acc.toArray (List.replicate k its.toArray) = (acc ++ (List.replicate k its).flatten).toArray
  | 0, acc => by simp
  | k + 1, acc => by
    have e : acc.toArray ++ its.toArray = (acc ++ its).toArray := by simp
    have e2 : (acc ++ its) ++ (List.replicate k its).flatten = acc ++ (List.replicate (k + 1) its).flatten := by
      rw [List.replicate_succ, List.flatten_cons, List.append_assoc]
    rw [<- e2, <- foldl_rep its k (acc ++ its), <- e, List.replicate_succ, List.foldl_cons]
section
variable {X : Cx} {pins : List (Addr × Obj)} {σ : St} {H : Hp} {s : Shared} {l b : Addr} {xs ys zs : List V}
theorem Inv.lset {its its' : List Value} {n : Nat} {f : Array Value -> Array Value} {t' : Nat} (I : Inv X pins σ H s) (hH : H l = some (.lst xs))
    (e : s.heap.get? l = some { cls := .type "list", data := .seq its.toArray n }) (hf : f its.toArray = its'.toArray) (hv : Vals ys its') (hz : ys.length <= sizeLine) :
    Inv X pins σ (upd H l (.lst ys)) { s with heap := s.heap.update l (Obj.mapSeq f), toks := t' } := by
  have q := PySem.IsL.update e f
  rw [hf] at q
  refine I.write (x := l) (e := l) (by rw [hH]; exact trivial) (.inl rfl) (fun b' u hb hu => (Heap.get?_update_other s.heap (Obj.mapSeq f) (Ne.symm hb)).trans hu) ⟨_, q⟩ ?_
  exact ⟨hz, its', _, hv, q⟩
theorem Inv.lnew {its : List Value} {t' : Nat} (I : Inv X pins σ H s) (hv : Vals ys its) (hz : ys.length <= sizeLine) :
    Inv X pins σ (upd H s.heap.objs.size (.lst ys)) { s with heap := s.heap.push { cls := .type "list", data := .seq its.toArray }, toks := t' } :=
  I.laid (fun _ _ q => Heap.get?_push_of_some _ q) (Nat.le_refl _) ⟨hz, its, 0, hv, Heap.get?_push_size _ rfl⟩
theorem Inv.fresh (I : Inv X pins σ H s) : H s.heap.objs.size = none := I.hok.fresh (Nat.le_refl _)
theorem Inv.lstM (I : Inv X pins σ H s) (hH : H l = some (.lst xs)) : xs.length <= sizeLine /\ ∃ (its : List Value) (n : Nat), Vals xs its /\ xs.length = its.length /\ s.heap.get? l = some { cls := .type "list", data := .seq its.toArray n } := by
  obtain ⟨z, its, n, r, e⟩ := I.hok l _ hH
  exact ⟨z, its, n, r, r.length, e⟩
theorem Ac9 {n : Nat} (h : n <= sizeLine) : Builtin.List.listTooLong n = false := by
  unfold Builtin.List.listTooLong
  exact decide_eq_false (by omega)
end
section
variable {X : Cx}
def Af8 : V -> List V -> Hp -> VK -> Prop := fun x vs H Q => ∃ l xs y, x = .ref l /\ vs = [y] /\ H l = some (.lst xs) /\ xs.length < sizeLine /\ Q .non (upd H l (.lst (xs ++ [y])))
theorem M8 : MtM X "list.append" Af8 := by
  intro pins s σ H x vs v us Q I rx rv h
  obtain ⟨l, xs, y, rfl, rfl, hH, hz, q⟩ := h
  cases rx
  obtain ⟨u, rfl, ru⟩ := rv.one
  obtain ⟨z, its, n, r, hl, e⟩ := I.lstM hH
  refine call_meets F.slot_list_append ⟨_, e, rfl⟩ F.entry_list_append (F.args_list_append_2 _ _) (PySem.list_append l its.toArray n u (by rw [List.size_toArray]; omega)) ⟨e, ?_⟩
  refine ⟨.non, _, I.lset (its' := its ++ [u]) hH e (by simp) (r.append (.cons ru .nil)) ?_, rfl, q⟩
  rw [List.length_append, List.length_singleton]
  omega
def Akt : R2 := fun x y H Q => ∃ l b xs zs, x = .ref l /\ y = .ref b /\ H l = some (.lst xs) /\ H b = some (.lst zs) /\ xs.length + zs.length <= sizeLine /\ ∀ p, H p = none -> Q (.ref p) (upd H p (.lst (xs ++ zs)))
theorem Aee : OpR X (binaryOp .Add) Akt := by
  intro pins s σ H x y v u Q I rx ry h
  obtain ⟨l, b, xs, zs, rfl, rfl, hH, hB, hz, q⟩ := h
  cases rx
  cases ry
  obtain ⟨z, its, n, r, hl, e⟩ := I.lstM hH
  obtain ⟨z2, its2, n2, r2, hl2, e2⟩ := I.lstM hB
  refine PySem.P.add_list e e2 ?_ (by rw [List.size_toArray, List.size_toArray]; omega)
  have ea : its.toArray ++ its2.toArray = (its ++ its2).toArray := by simp
  rw [ea]
  exact ⟨.ref _, _, I.lnew (t' := s.toks) (r.append r2) (by rw [List.length_append]; omega), rfl, q _ I.fresh⟩
def Ak7 : R2 := fun x y H Q => ∃ l k xs, x = .ref l /\ y = .int k /\ H l = some (.lst xs) /\ -(2 ^ 63) <= k /\ k < 2 ^ 63 /\ xs.length * k.toNat <= sizeLine /\
  ∀ p, H p = none -> Q (.ref p) (upd H p (.lst (List.replicate k.toNat xs).flatten))
theorem len_rep {α : Type} (xs : List α) (k : Nat) : (List.replicate k xs).flatten.length = k * xs.length := by
  induction k with
  | zero => simp
  | succ k ih => rw [List.replicate_succ, List.flatten_cons, List.length_append, ih, Nat.succ_mul, Nat.add_comm]
theorem Z9 : OpR X (binaryOp .Mult) Ak7 := by
  intro pins s σ H x y v u Q I rx ry h
  obtain ⟨l, k, xs, rfl, rfl, hH, h1, h2, hz, q⟩ := h
  cases rx
  obtain ⟨t, rfl⟩ := ry
  obtain ⟨z, its, n, r, hl, e⟩ := I.lstM hH
  have hlen : its.toArray.size * k.toNat <= sizeLine := by rw [List.size_toArray, <- hl]; exact hz
  have hcap : ¬ its.toArray.size * k.toNat > (2 ^ 63 - 1) / 8 := by
    have : (sizeLine : Nat) <= (2 ^ 63 - 1) / 8 := by decide
    omega
  have hfit : ¬ (!Builtin.List.listFitsIndex k) = true := by
    rw [fitsIndex_both h1 h2]
    exact Bool.false_ne_true
  have hlong : ¬ Builtin.List.listTooLong (its.toArray.size * k.toNat) = true := by
    rw [Ac9 hlen]
    exact Bool.false_ne_true
  have hnew : List.foldl (fun x1 x2 => x1 ++ x2) #[] (List.replicate (if its.toArray.isEmpty = true then 0 else k.toNat) its.toArray) = (List.replicate k.toNat its).flatten.toArray := by
    have f0 : ∀ m : Nat, List.foldl (fun x1 x2 => x1 ++ x2) #[] (List.replicate m its.toArray) = (List.replicate m its).flatten.toArray := fun m => by
      have := foldl_rep its m []
      rw [List.nil_append] at this
      exact this
    rw [f0]
    cases its with
    | nil => simp
    | cons a r' => rw [if_neg (by simp)]
  refine wpAny_binaryOp_repeat_ref (T := "list") (U := "int") (by decide) ⟨_, e, rfl⟩ (fun s' => typeIs_int s' k t) noFill_list_mul F.fills_int_mul F.slot_int_rmul repeat_list F.slot_int_index.lookup
    (call_meets F.slot_int_rmul (typeIs_int s k t) F.entry_int_rmul (F.args_int_rmul_2 _ _) (int___rmul___int_list k t l its.toArray n)
      ⟨e, rfl, ⟨_, e, rfl⟩, call_meets F.slot_list_mul ⟨_, e, rfl⟩ F.entry_list_mul (F.args_list_mul_2 _ _) (AutoListH.list___mul___list_int_3 l its.toArray n k t hfit hcap hlong) ⟨e, ?_⟩⟩)
  rw [hnew]
  exact ⟨.ref _, _, I.lnew (t' := s.toks) (r.rep k.toNat) (by rw [len_rep, Nat.mul_comm]; exact hz), rfl, q _ I.fresh⟩
end
end L2
namespace Att
open PySem PySem.W PySem.Calls PyProof.Rows
theorem Qs {P : Params} {h : Heap} : ∀ (ns : List Int) (vs : List Value), WellAll P h vs (ns.map WData.int) -> IntsAre vs ns := by
  intro ns
  induction ns with
  | nil =>
    intro vs w
    rw [List.map_nil] at w
    cases w
    exact .nil
  | cons n ns ih =>
    intro vs w
    rw [List.map_cons] at w
    cases w with
    | cons a b =>
      cases a
      exact .cons _ _ (ih _ b)
theorem Zt {l : OpenLaw} {n : Nat} (hn : l.most = some n) {P : Params} {h : Heap} {args : List WData} {vals : List Value}
    (hpre : l.row.toRowW.claim.pre args = true) (hwl : WellAll P h vals args) :
    ∃ a vs ns, vals = [Value.ref a] /\ args = [WData.list (ns.map WData.int)] /\ h.get? a = some { cls := .type "list", data := .seq vs.toArray } /\ IntsAre vs ns /\ ns.length <= n := by
  have hsh : WShape.hasAll [] args [.list .int] = true := (pre_splitW hpre).1
  have hc : l.pre.holds [] { args := args } = true := (pre_splitW hpre).2
  obtain ⟨d, r, rfl, h1, h2⟩ := hasAllW_cons hsh
  obtain rfl := hasAllW_nil h2
  obtain ⟨xs, rfl, h3⟩ := hasW_list h1
  obtain ⟨ns, rfl⟩ := items_int h3
  have hlen : ns.length <= n := by
    unfold OpenLaw.pre at hc
    have h4 : (WTm.not (.lt (.lit (.int (n : Int))) (.len (.arg 0)))).holds [] { args := [.list (ns.map .int)] } = true := by
      have h4 := (holds_andW hc).1
      rw [hn] at h4
      exact h4
    have h5 := condW_of h4 (w_not (w_lt w_lit (w_len_list (w_arg rfl))))
    rw [List.length_map] at h5
    refine Nat.le_of_not_lt fun q => ?_
    have q' : (n : Int) < ((ns.length : Nat) : Int) := by omega
    first
      | (rw [decide_eq_true q'] at h5; exact absurd h5 (by decide))
      | (simp at h5; omega)
  cases hwl with
  | cons w1 w2 =>
    cases w2
    cases w1 with
    | list ho hall => exact ⟨_, _, ns, rfl, rfl, ho, Qs ns _ hall, hlen⟩
theorem Aab (l : OpenLaw) (args : List WData) : l.row.toRowW.claim.post args (.bool true) args = true :=
  postW_of (r := l.row.toRowW) (X := (true == true))
    (show WShape.has [] (.bool true) .bool = true by first | rfl | decide | simp [WShape.has, WShape.arms, WShape.armsAll])
    (show (WTm.eq .res (.lit (.bool true))).value [] { args := args, res := some (.bool true), after := args } = some (.bool (true == true)) from w_eq_bool (w_res rfl) w_lit) rfl
theorem Wo {l : OpenLaw} {n : Nat} {q : Program} {loose : List Str} {XP : (Str -> Option Value) -> Heap -> Prop} {YP : World -> Heap -> Prop} {d : DefRec}
    (hn : l.most = some n) (hdf : d.params.defaults = [])
    (call : ∀ (w : World) (s₀ s₁ : Shared) (mg mb : Str -> Option Value) (fa : Addr) (o : Obj) (pm cd doc : Value) (a : Addr) (vs : List Value) (ns : List Int),
      Ground q loose [] XP w s₀ mg mb s₁.heap -> YP w s₁.heap ->
      s₁.heap.get? fa = some o -> o.data = .func (docDef d.name d.params d.body d.scope pm cd doc) -> s₁.heap.CodeRec cd d.name -> mg d.name = some (.ref fa) ->
      s₁.heap.get? a = some { cls := .type "list", data := .seq vs.toArray } -> IntsAre vs ns -> ns.length <= n -> s₁.gens = #[] ->
      codeAny (model l.prog w) callerA (.call (.ref fa) ⟨[.ref a], []⟩) (fun r s' => r = .ok (.ret (.bool true)) /\ OldK s₁.heap s'.heap /\ s'.os = s₁.os /\ AllBare s'.gens) s₁) :
    WalkO q loose XP YP l.row.toRowW d [] (fun f vs => PySem.call f vs) := by
  intro w s₀ s₁ mg mb G Y fa o pm cd doc dV kV ho hd hcd hD hmg hg args vals as hpre hlay hrd hwl hlo
  obtain rfl : dV = .none := Dflts.none hD hdf
  obtain rfl : kV = .none := Dflts.noKw hD
  obtain ⟨a, vs, ns, rfl, rfl, hobj, hints, hlen⟩ := Zt hn hpre hwl
  refine enter_call (codeAny_mono (call w s₀ s₁ mg mb fa o pm cd doc a vs ns G Y ho (fd_plain hd) hcd hmg hobj hints hlen hg) fun r s' hq => ?_)
  obtain ⟨rfl, h2, h3, h4⟩ := hq
  exact ⟨.inl ⟨.bool true, .bool true, [], rfl, fun _ => rfl, .bool true, Aab l _, fun _ => ⟨List.Pairwise.nil, fun _ hm => (nomatch hm)⟩⟩, h2, h3, h4⟩
end Att
namespace L2
open PySem PySem.Spec PyProof.Rows
theorem Va : ∀ {vs : List Value} {ns : List Int}, IntsAre vs ns -> Vals (ns.map V.int) vs
  | _, _, .nil => .nil
  | _, _, .cons n t h => .cons ⟨t, rfl⟩ (Va h)
def Only (H : Hp) : Prop := ∀ b, H b = none \/ ∃ o xs, H b = some (.frz o (.lst xs))
theorem Acl {P : Program} {w : World} {K : PySem.W.Frag} {mg mb : Str -> Option Value} {CX : CXT} {k : Nat} {fa a : Addr} {fd : FuncData} {x : Str} {sp : Sp} {s₁ : Shared} {vs : List Value} {ns : List Int}
    (KX : K.In s₁.heap) (hns : s₁.heap.Ns mainGlobals mg) (hb : s₁.heap.Ns builtinsNs mb) (hbb : ∀ x : Str, x ≠ "__name__" -> mb x = bootBuiltins x) (hlim : s₁.heap.NoLimit) (hg : s₁.gens = #[])
    (ha : s₁.heap.get? a = some { cls := .type "list", data := .seq vs.toArray }) (hi : IntsAre vs ns) (hl : ns.length <= sizeLine) (hr : Kg k callerA)
    (F : ∀ base : Heap, K.In base -> base.Ns mainGlobals mg -> Rx P w K mg base CX k fa fd [x] sp) (hbind : ∀ (s : Shared) (u : Value), BindsTo s fd ⟨[u], []⟩ [(x, u)])
    (hsp : ∀ H : Hp, Only H -> SqL K H a (ns.map V.int) -> sp [.ref a] H (fun v _ => v = .bl true) fun _ _ _ => False)
    (hCX : ∀ H e s', CX [] H s₁ (fun _ _ _ => False) e s' -> False) :
    codeAny (model P w) callerA (.call (.ref fa) ⟨[.ref a], []⟩) (fun r s' => r = .ok (.ret (.bool true)) /\ OldK s₁.heap s'.heap /\ s'.os = s₁.os /\ AllBare s'.gens) s₁ := by
  have rv := Va hi
  have lenV := hi.length
  have core : ∀ H : Hp, Only H -> SqL K H a (ns.map V.int) -> HOk P w H s₁.heap -> (∀ b, H b ≠ none -> b = a) -> (H a ≠ none -> K.lookup a = none) ->
      codeAny (model P w) callerA (.call (.ref fa) ⟨[.ref a], []⟩) (fun r s' => r = .ok (.ret (.bool true)) /\ OldK s₁.heap s'.heap /\ s'.os = s₁.os /\ AllBare s'.gens) s₁ := by
    intro H hO hS hok hA hK
    have base_of : ∀ {b : Addr} {o : Obj}, s₁.heap.get? b = some o -> H b = none -> (Ada s₁.heap H).get? b = some o := fun e n => Acs e n
    have noA : ∀ {b : Addr} {o : Obj} {es : Array DictEntry} {ep : Nat}, s₁.heap.get? b = some o -> o.data = .dict es ep -> H b = none := fun {b o es ep} e d => by
      cases q : H b with
      | none => rfl
      | some u =>
        have e' : b = a := hA b (by rw [q]; simp)
        subst e'
        rw [ha] at e; cases e
        have d' : Data.seq vs.toArray _ = Data.dict es ep := d
        cases d'
    have nsK : ∀ {b : Addr} {m : Str -> Option Value}, s₁.heap.Ns b m -> (Ada s₁.heap H).Ns b m := fun {b m} ⟨o, es, ep, e, d, r⟩ => ⟨o, es, ep, base_of e (noA e d), d, r⟩
    have hKb : K.In (Ada s₁.heap H) := fun b o e => base_of (KX b o e) (by
      cases q : H b with
      | none => rfl
      | some u =>
        have e' : b = a := hA b (by rw [q]; simp)
        subst e'
        rw [hK (by rw [q]; simp)] at e; cases e)
    have hM : Mod K mg (Ada s₁.heap H) := ⟨hKb, nsK hns, ⟨mb, nsK hb, hbb⟩, let ⟨mc, h1, h2⟩ := hlim; ⟨mc, nsK h1, h2⟩⟩
    have e0 : Aci P w K mg (Ada s₁.heap H) callerA [] s₁ H := ⟨rfl, hM, fun b o e => Af2 e, Nat.le_of_eq (Zk _ _), trivial, fun b hb => absurd (show b ∈ ([] : List Addr) from hb) (by simp), hok, .of_eq hg⟩
    refine codeAny_mono ((F _ hKb (nsK hns)).run callerA [] s₁ H ⟨[.ref a], []⟩ [.ref a] [.ref a] _ _ hr e0 (hbind s₁ (.ref a)) (.cons rfl .nil) (hsp H hO hS)) fun r s' h => ?_
    cases r with
    | error e => exact (hCX H e s' h).elim
    | ok fl =>
      cases fl with
      | next => exact False.elim h
      | brk => exact False.elim h
      | cont => exact False.elim h
      | ret u =>
        obtain ⟨v, H', os, bare, un, hok', r', q⟩ := h
        have q' : v = .bl true := q
        subst q'
        obtain rfl : u = Value.bool true := r'
        refine ⟨rfl, OldK.of_keep fun b o e => ?_, os, bare⟩
        cases q : H b with
        | none => exact un.keep b o e q (by intro z; exact absurd (show b ∈ ([] : List Addr) from z) (by simp)) (by simp)
        | some u =>
          rcases hO b with z | ⟨ob, xs, z⟩
          . rw [q] at z; cases z
          . have z2 := un.frzs b ob _ z
            obtain ⟨e1, _⟩ := hok b _ z
            obtain ⟨e2, _⟩ := hok' b _ z2
            rw [e] at e1; cases e1
            exact e2
  cases hk : K.lookup a with
  | some o =>
    have e := KX a o hk
    rw [ha] at e
    cases e
    refine core (fun _ => none) (fun _ => .inl rfl) (.inr ⟨_, vs.toArray, _, hk, rfl, rfl, rfl, by rw [List.size_toArray, lenV]; exact hl, by simpa using rv⟩) (fun b u z => by have z' : (none : Option HO) = some u := z; cases z') (fun b z => absurd rfl z) fun z => absurd rfl z
  | none =>
    refine core (fun b => if b = a then some (.frz { cls := .type "list", data := .seq vs.toArray } (.lst (ns.map V.int))) else none) (fun b => ?_) (.inl (.inr ⟨{ cls := .type "list", data := .seq vs.toArray }, if_pos rfl⟩)) (fun b u z => ?_) (fun b z => ?_) fun _ => hk
    . by_cases hb : b = a
      . exact .inr ⟨_, _, if_pos hb⟩
      . exact .inl (if_neg hb)
    . by_cases hb : b = a
      . have z' := (if_pos hb).symm.trans z
        cases z'
        subst hb
        exact ⟨ha, by rw [List.length_map]; exact hl, vs, _, rv, ha⟩
      . have z' := (if_neg hb).symm.trans z
        cases z'
    . by_cases hb : b = a
      . exact hb
      . exact absurd (if_neg hb) z
end L2
namespace L2
open PySem PySem.Spec PyProof.Rows
theorem Aaq {l : PySem.W.OpenLaw} {n k : Nat} {q : Program} {loose : List Str} {XP : (Str -> Option Value) -> Heap -> Prop} {YP : World -> Heap -> Prop} {d : DefRec} {K : Params -> PySem.W.Frag} {CX : World -> CXT} {sp : World -> Sp} {x : Str}
    (hn : l.most = some n) (hn2 : n <= sizeLine) (hdf : d.params.defaults = []) (hr : Kg k callerA)
    (hY : ∀ (w : World) (h : Heap), YP w h -> (K w.params).In h)
    (F : ∀ (w : World) (mg : Str -> Option Value) (fa : Addr) (h : Heap), (K w.params).In h -> h.Ns mainGlobals mg -> mg d.name = some (.ref fa) ->
      ∃ fd : FuncData, (∀ (s : Shared) (u : Value), BindsTo s fd ⟨[u], []⟩ [(x, u)]) /\
        ∀ base : Heap, (K w.params).In base -> base.Ns mainGlobals mg -> Rx l.prog w (K w.params) mg base (CX w) k fa fd [x] (sp w))
    (hsp : ∀ (w : World) (H : Hp) (a : Addr) (ns : List Int), ns.length <= n -> Only H -> SqL (K w.params) H a (ns.map V.int) -> sp w [.ref a] H (fun v _ => v = .bl true) fun _ _ _ => False)
    (hCX : ∀ (w : World) (H : Hp) (s : Shared) (e : Value) (s' : Shared), CX w [] H s (fun _ _ _ => False) e s' -> False) :
    PySem.W.WalkO q loose XP YP l.row.toRowW d [] (fun f vs => PySem.call f vs) := by
  refine Att.Wo hn hdf fun w s₀ s₁ mg mb fa o pm cd doc a vs ns G Y ho hd hcd hmg hobj hints hlen hg => ?_
  have KX := hY w _ Y
  obtain ⟨fd, hb, hF⟩ := F w mg fa _ KX G.T.g hmg
  exact Acl KX G.T.g G.T.b G.T.builtins G.T.nolimit hg hobj hints (Nat.le_trans hlen hn2) hr hF hb (fun H hO hS => hsp w H a ns hlen hO hS) fun H e s' => hCX w H s₁ e s'
end L2
/- THE LAST THEOREM (shape; LID, My.* are yours):
   My.Adr: a structure of the addresses that your layer names (classes, functions); My.Txt K t: a structure (Prop) of the equations over K;
   My.txt_mk : {K} {implicit addresses ..} (e1 : nsIn K mainGlobals "law" = some (some (.ref f))) (e2 : K.lookup f = some ⟨oc, od, .func (fnOf "law" "law" params body scope dV kV doc pm an cdv ct), sl⟩) (e3 : codeIn K cdv "law" = true) .. : ∃ t, My.Txt K t
set_option maxRecDepth 100000 in
set_option maxHeartbeats 0 in
theorem PySem.Challenge.cw_LID_holds : PySem.Challenge.rw_LID.Holds := by
  w_on; o_law; k_head; (case hw => w_witness2)
  k_fill
  refine L2.Aaq (l := PySem.Challenge.rw_LID) (n := 63) (k := 40) (x := "script") (CX := fun w => ..) (sp := fun _ => My.sp_law) rfl (by decide) rfl ⟨rfl, by decide, by decide⟩ (fun w h Y => PySem.W.kIn_of Y) ?F ?S ?C
  case F =>
    intro w mg fa h KX G hmg
    have T : ∃ t, My.Txt (L2.KOf KX) t := by
      dsimp only [L2.KOf]                          -- K must stand as «<heap const> w.params» for k_is
      refine' My.txt_mk ?e1 ?e2 ?e3 ..
      (case e1 => PySem.W.k_is)                    -- in the order: a name -> its address -> its object -> its parts
      (case e2 => PySem.W.k_is)
      ..
    obtain ⟨t, T⟩ := T
    have e0 := hmg.symm.trans (PySem.W.mg_of KX G T.law)
    cases e0                                       -- fa is the law's own address
    exact ⟨_, fun s u => .of_eq rfl, fun base kb nb => My.law_fn T kb nb⟩     -- if «.of_eq rfl» comes too early: refine' ⟨_, ?b, fun base kb nb => My.law_fn T kb nb⟩; exact fun s u => .of_eq rfl
  case S => exact fun w H a ns hl hO hS => ..
  case C => exact ..
(the tactic k_is has no namespace: write k_is) -/
namespace L2
open PySem PySem.Spec PyProof.Rows
def Ml (s : Stmt) : Arguments := match s with
  | .FunctionDef _ a _ _ _ _ _ _ _ _ => a
  | _ => { posonlyargs := [], args := [], vararg := none, kwonlyargs := [], kw_defaults := [], kwarg := none, defaults := [] }
def Jk (s : Stmt) : List Stmt := match s with
  | .FunctionDef _ _ b _ _ _ _ _ _ _ => b
  | _ => []
def Ag (s : Stmt) : Scope := match s with
  | .FunctionDef _ _ _ _ _ _ sc _ _ _ => sc
  | _ => { kind := .function, names := [], isGenerator := false, isCoroutine := false }
abbrev CX0 : CXT := fun _ _ _ _ _ _ => False
abbrev E0 : XK := fun _ _ _ => False
theorem Aiu {X : Cx} : Passes CX0 X E0 := fun _ _ _ _ _ _ _ h => h.elim
structure Fun (K : PySem.W.Frag) (x qual : Str) (st : Stmt) (f : Addr) (fd : FuncData) : Prop where
  ex : ∃ (oc : Value) (od : Option Addr) (kV doc pm : Value) (an : Option Addr) (cdv ct : Value) (osl : Array (Option Value)),
    fd = PySem.W.fnOf x qual (Ml st) (Jk st) (Ag st) .none kV doc pm an cdv ct /\ K.lookup f = some ⟨oc, od, .func fd, osl⟩ /\ PySem.W.codeIn K cdv qual = true
  kp : PySem.W.keepIn K (.ref f) = true
section
variable {P : Program} {w : World} {K : PySem.W.Frag} {mg : Str -> Option Value} {base : Heap}
theorem Fun.ok {x qual : Str} {st : Stmt} {f : Addr} {fd : FuncData} {N ps : List Str} {k : Nat} {sp : Sp} (F : Fun K x qual st f fd) (S : Ao N ps (Ag st)) (len : ∀ vs H Q E, sp vs H Q E -> vs.length = ps.length)
    (hbody : ∀ (cdv : Value) (A : Around) (outer : List Env) (s : Shared) (H : Hp) (vs : List V) (Q : VK) (E : XK), Kg k (A.deeper (envOfC qual (Ag st) s.heap.objs.size f cdv)) -> sp vs H Q E ->
      ∃ t, PSs (Rq CX0 P w K mg base N qual (Ag st) f cdv A outer s H E).nox (Jk st) t /\ t { nx := fun _ H' => Q .non H', rt := Q } (start N vs) H) : Rx P w K mg base CX0 (k + 1) f fd ps sp := by
  obtain ⟨oc, od, kV, doc, pm, an, cdv, ct, osl, rfl, lk, hcd⟩ := F.ex
  refine Ah2 lk hcd S len fun A outer s H vs Q E hr hsp => ?_
  obtain ⟨t, h, q⟩ := hbody cdv A outer s H vs Q E hr hsp
  exact ⟨t, h.nox, q⟩
theorem Fun.binds {x qual : Str} {st : Stmt} {f : Addr} {fd : FuncData} {ps : List Str} (F : Fun K x qual st f fd)
    (h : ∀ (kV doc pm : Value) (an : Option Addr) (cdv ct : Value) (us : List Value), us.length = ps.length -> bindArgs (PySem.W.fnOf x qual (Ml st) (Jk st) (Ag st) .none kV doc pm an cdv ct) ⟨us, []⟩ = pure (ps.zip us)) : Binds K fd ps [] := by
  obtain ⟨oc, od, kV, doc, pm, an, cdv, ct, osl, rfl, lk, hcd⟩ := F.ex
  exact .all (h kV doc pm an cdv ct)
theorem Aev {x qual : Str} {st : Stmt} {f : Addr} {oc : Value} {od an : Option Addr} {osl : Array (Option Value)} {kV doc pm cdv ct : Value} (l : K.lookup f = some ⟨oc, od, .func (PySem.W.fnOf x qual (Ml st) (Jk st) (Ag st) .none kV doc pm an cdv ct), osl⟩)
    (c : PySem.W.codeIn K cdv qual = true) (k : PySem.W.keepIn K (.ref f) = true) : Fun K x qual st f (PySem.W.fnOf x qual (Ml st) (Jk st) (Ag st) .none kV doc pm an cdv ct) := ⟨⟨oc, od, kV, doc, pm, an, cdv, ct, osl, rfl, l, c⟩, k⟩
end
section
variable {X : Cx}
theorem pv (i : Nat) {x : Str} {pos : Pos} (hN : X.N[i]? = some x := by rfl) (hv : Vis X.env.scope x := by first | exact Or.inl rfl | exact Or.inr (Or.inl rfl) | exact Or.inr (Or.inr rfl)) (hd : (x == ("__debug__" : Str)) = false := by decide)
    (hcd : (x == ("__classdict__" : Str)) = false := by decide) : PE X (.Name x pos) (Ael i) := Ahf hN hv hd hcd
end
def Same (H H' : Hp) : Prop := ∀ b o, H b = some o -> H' b = some o
theorem Same.refl (H : Hp) : Same H H := fun _ _ h => h
theorem Same.trans {H H1 H2 : Hp} (a : Same H H1) (b : Same H1 H2) : Same H H2 := fun c o h => b c o (a c o h)
theorem Same.free {H H' : Hp} (e : Same H H') {l : Addr} (h : H' l = Option.none) : H l = Option.none := by
  cases q : H l with
  | none => rfl
  | some o =>
    rw [e l o q] at h
    cases h
theorem Same.seq {K : PySem.W.Frag} {H H' : Hp} {a : Addr} {xs : List V} (e : Same H H') (h : SqL K H a xs) : SqL K H' a xs := by
  rcases h with (h | ⟨o, h⟩) | h
  . exact .inl (.inl (e _ _ h))
  . exact .inl (.inr ⟨o, e _ _ h⟩)
  . exact .inr h
end L2
namespace L2
open PySem PySem.Spec PyProof.Rows
def Cal (P : Program) (w : World) (K : PySem.W.Frag) (mg : Str -> Option Value) (base : Heap) (k : Nat) (x : Str) (ps : List Str) (sp : Sp) : Prop :=
  ∃ f fd, Rx P w K mg base CX0 k f fd ps sp /\ mg x = some (.ref f) /\ PySem.W.keepIn K (.ref f) = true /\ Binds K fd ps []
structure Df (K : PySem.W.Frag) (mg : Str -> Option Value) (x : Str) (st : Stmt) (ps : List Str) (f : Addr) (fd : FuncData) : Prop where
  fn : Fun K x x st f fd
  bd : Binds K fd ps []
  at' : mg x = some (.ref f)
theorem Df.cal {P : Program} {w : World} {K : PySem.W.Frag} {mg : Str -> Option Value} {base : Heap} {k : Nat} {x : Str} {st : Stmt} {ps : List Str} {f : Addr} {fd : FuncData} {sp : Sp}
    (F : Df K mg x st ps f fd) (G : Rx P w K mg base CX0 k f fd ps sp) : Cal P w K mg base k x ps sp := ⟨f, fd, G, F.at', F.fn.kp, F.bd⟩
theorem Adx {X : Cx} {k : Nat} {x : Str} {ps : List Str} {sp : Sp} {p pos : Pos} {e : Expr} {es : List Expr} {t : TA}
    (C : Cal X.prog X.w X.K X.mg X.base k x ps sp) (hr : Kg k X.A) (ha : PA X (e :: es) t) (hg : Gl X x := by rfl) (hdb : (x == ("__debug__" : Str)) = false := by decide)
    (he : starEach (e :: es) X.env = (false, eval e X.env) :: starEach es X.env := by rfl) (hpl : (backTo pos (starEach es X.env)).any (·.1) = false := by rfl) :
    PE X (.Call (.Name x p) (e :: es) [] pos) (Wj sp [] E0 t) := by
  obtain ⟨f, fd, G, a, b, c⟩ := C
  exact Acg G hr hg a b c .nil Aiu ha hdb he hpl
def Sz (n : Nat) (a : Int) : Prop := a.natAbs < 2 ^ n
theorem Sz.mono {m n : Nat} {a : Int} (h : Sz m a) (l : m <= n) : Sz n a := Nat.lt_of_lt_of_le h (Nat.pow_le_pow_right (by decide) l)
theorem Sz.mul {m n : Nat} {a b : Int} (h : Sz m a) (g : Sz n b) : Sz (m + n) (a * b) := by
  unfold Sz at *
  rw [Int.natAbs_mul, Nat.pow_add]
  exact Nat.mul_lt_mul'' h g
theorem Sz.add {m n : Nat} {a b : Int} (h : Sz m a) (g : Sz n b) : Sz (max m n + 1) (a + b) := by
  have h1 : Sz (max m n) a := h.mono (Nat.le_max_left _ _)
  have h2 : Sz (max m n) b := g.mono (Nat.le_max_right _ _)
  unfold Sz at *
  have := Int.natAbs_add_le a b
  rw [Nat.pow_succ]
  omega
theorem Sz.neg {n : Nat} {a : Int} (h : Sz n a) : Sz n (-a) := by
  unfold Sz at *
  rw [Int.natAbs_neg]
  exact h
theorem Sz.sub {m n : Nat} {a b : Int} (h : Sz m a) (g : Sz n b) : Sz (max m n + 1) (a - b) := by
  rw [Int.sub_eq_add_neg]
  exact h.add g.neg
theorem Sz.of_abs {n : Nat} {a b : Int} (h : Sz n b) (l : a.natAbs <= b.natAbs) : Sz n a := Nat.lt_of_le_of_lt l h
theorem Sz.mulOk {m n : Nat} {a b : Int} (h : Sz m a) (g : Sz n b) (l : m + n <= 134217728) : IntMulOk a b :=
  IntMulOk.of_le (PySem.intBits_le_iff.mpr h) (PySem.intBits_le_iff.mpr g) l
theorem Sz.log2 {n : Nat} {a : Int} (h : Sz n a) (h0 : a ≠ 0) (l : n <= 9000) : a.natAbs.log2 < 9000 :=
  Nat.lt_of_lt_of_le ((Nat.log2_lt (by omega)).mpr h) l
section
variable {X : Cx} {a b : Expr} {ta tb : TE} {pos : Pos}
theorem Cr : OpR X (binaryOp .Mult) (rI IntMulOk fun i j => .int (i * j)) := opI fun _ _ _ _ _ _ _ hc q => mul_int q hc
def Aja (_ j : Int) : Prop := j ≠ 0 /\ j.natAbs.log2 < 9000
theorem Jj : OpR X (binaryOp .FloorDiv) (rI Aja fun i j => .int (i.fdiv j)) := opI fun _ _ _ _ _ _ _ hc q => floordiv_int hc.1 q (.inl (PyProof.noPylong_of_log2 hc.2))
end
mutual
inductive RdD (K : PySem.W.Frag) (H : Hp) : V -> PyData -> Prop where
  | non : RdD K H .non .none
  | bl (b : Bool) : RdD K H (.bl b) (.bool b)
  | int (i : Int) : RdD K H (.int i) (.int i)
  | str (x : Str) : RdD K H (.str x) (.str x)
  | tup {a : Addr} {xs : List V} {ds : List PyData} : SqT K H a xs -> Yc K H xs ds -> RdD K H (.ref a) (.tuple ds)
  | lst {a : Addr} {xs : List V} {ds : List PyData} : SqL K H a xs -> Yc K H xs ds -> RdD K H (.ref a) (.list ds)
inductive Yc (K : PySem.W.Frag) (H : Hp) : List V -> List PyData -> Prop where
  | nil : Yc K H [] []
  | cons {x : V} {d : PyData} {xs : List V} {ds : List PyData} : RdD K H x d -> Yc K H xs ds -> Yc K H (x :: xs) (d :: ds)
end
section
variable {X : Cx} {pins : List (Addr × Obj)} {σ : St} {H : Hp} {s : Shared}
mutual
theorem RdD.reads (I : Inv X pins σ H s) : ∀ {x : V} {d : PyData} {u : Value}, RdD X.K H x d -> RelV x u -> ∃ as, Reads s.heap u d as
  | _, _, _, .non, r => by cases r; exact ⟨_, .none⟩
  | _, _, _, .bl b, r => by cases r; exact ⟨_, .bool b⟩
  | _, _, _, .int i, r => by obtain ⟨t, rfl⟩ := r; exact ⟨_, .int i t⟩
  | _, _, _, .str x, r => by obtain ⟨t, rfl⟩ := r; exact ⟨_, .str x t⟩
  | _, _, _, .tup hq hr, r => by
    cases r
    obtain ⟨its, rv, pl, hz⟩ := I.tuple hq
    obtain ⟨as, q⟩ := Yc.reads I hr rv
    obtain ⟨o, ho, hc, n, hd⟩ := pl
    exact ⟨_, .tuple ho hc hd (by simpa using q)⟩
  | _, _, _, .lst hq hr, r => by
    cases r
    obtain ⟨its, rv, pl, hz⟩ := I.list hq
    obtain ⟨as, q⟩ := Yc.reads I hr rv
    obtain ⟨o, ho, hc, n, hd⟩ := pl.isList
    exact ⟨_, .list ho hc hd (by simpa using q)⟩
theorem Yc.reads (I : Inv X pins σ H s) : ∀ {xs : List V} {ds : List PyData} {us : List Value}, Yc X.K H xs ds -> Vals xs us -> ∃ as, ReadsAll s.heap us ds as
  | _, _, _, .nil, r => by cases r; exact ⟨_, .nil⟩
  | _, _, _, .cons h t, r => by
    cases r with
    | cons r1 r2 =>
      obtain ⟨as, q⟩ := RdD.reads I h r1
      obtain ⟨bs, p⟩ := Yc.reads I t r2
      exact ⟨_, .cons q p⟩
end
end
theorem Yc.ints {K : PySem.W.Frag} {H : Hp} : ∀ ns : List Int, Yc K H (ns.map V.int) (ns.map PyData.int)
  | [] => .nil
  | n :: r => .cons (.int n) (Yc.ints r)
theorem RdD.ints {K : PySem.W.Frag} {H : Hp} {a : Addr} {ns : List Int} (h : SqT K H a (ns.map V.int)) : RdD K H (.ref a) (.tuple (ns.map PyData.int)) := .tup h (.ints ns)
theorem RdD.lints {K : PySem.W.Frag} {H : Hp} {a : Addr} {ns : List Int} (h : SqL K H a (ns.map V.int)) : RdD K H (.ref a) (.list (ns.map PyData.int)) := .lst h (.ints ns)
theorem M9 : ∀ ns ms : List Int, PyData.eqvAll (ns.map PyData.int) (ms.map PyData.int) = decide (ns = ms)
  | [], [] => by simp [PyData.eqvAll]
  | [], _ :: _ => by simp [PyData.eqvAll]
  | _ :: _, [] => by simp [PyData.eqvAll]
  | a :: r, b :: t => by
    simp only [List.map_cons, PyData.eqvAll, PyData.eqv, M9 r t]
    by_cases h : a = b <;> by_cases h' : r = t <;> simp [h, h']
theorem shaped_ints (ns : List Int) : SeqAt.shaped (.tuple (ns.map PyData.int)) = true := by
  simp [SeqAt.shaped, PyData.canLay0, PyData.depth, PySem.W.ke_canLayAll0, PySem.W.ke_depthAll]
section
variable {X : Cx}
def Aiz (K : PySem.W.Frag) (f : Bool -> Bool) : R2 := fun x y H Q => ∃ d e, RdD K H x d /\ RdD K H y e /\ SeqAt.shaped d = true /\ SeqAt.shaped e = true /\ Q (.bl (f (PyData.eqv d e))) H
theorem Ad3 (hu : X.A.units + 64 < cLine) : OpR X (compareOp .Eq) (Aiz X.K fun b => b) := by
  intro pins s σ H x y v u Q I rx ry h
  obtain ⟨d, e, hd, he, s1, s2, q⟩ := h
  obtain ⟨as, r1⟩ := RdD.reads I hd rx
  obtain ⟨bs, r2⟩ := RdD.reads I he ry
  exact eq_dataH r1 r2 s1 s2 hu ⟨.bl _, H, I, rfl, q⟩
theorem Xo (hu : X.A.units + 64 < cLine) : OpR X (compareOp .NotEq) (Aiz X.K fun b => !b) := by
  intro pins s σ H x y v u Q I rx ry h
  obtain ⟨d, e, hd, he, s1, s2, q⟩ := h
  obtain ⟨as, r1⟩ := RdD.reads I hd rx
  obtain ⟨bs, r2⟩ := RdD.reads I he ry
  exact ne_dataH r1 r2 s1 s2 hu ⟨.bl _, H, I, rfl, q⟩
def Ajm (K : PySem.W.Frag) (f : Bool -> Bool) : R2 := fun x y H Q => ∃ (a b : Addr) (ns ms : List Int), x = .ref a /\ y = .ref b /\ SqT K H a (ns.map V.int) /\ SqT K H b (ms.map V.int) /\ Q (.bl (f (decide (ns = ms)))) H
theorem Im (hu : X.A.units + 64 < cLine) : OpR X (compareOp .Eq) (Ajm X.K fun b => b) := by
  intro pins s σ H x y v u Q I rx ry h
  obtain ⟨a, b, ns, ms, rfl, rfl, ha, hb, q⟩ := h
  exact Ad3 hu pins s σ H _ _ v u Q I rx ry ⟨_, _, .ints ha, .ints hb, shaped_ints _, shaped_ints _, by rw [PyData.eqv, M9]; exact q⟩
theorem Vl (hu : X.A.units + 64 < cLine) : OpR X (compareOp .NotEq) (Ajm X.K fun b => !b) := by
  intro pins s σ H x y v u Q I rx ry h
  obtain ⟨a, b, ns, ms, rfl, rfl, ha, hb, q⟩ := h
  exact Xo hu pins s σ H _ _ v u Q I rx ry ⟨_, _, .ints ha, .ints hb, shaped_ints _, shaped_ints _, by rw [PyData.eqv, M9]; exact q⟩
theorem Ua : Ik X (.builtin "isinstance") (fun xs H Q => ∃ x t T b, xs = [x, .ty T] /\ Vv X.K H x t /\ PySem.W.kitOne X.K t (.type T) = some b /\ Q (.bl b) H) := by
  intro pins s σ H xs us Q I r h
  obtain ⟨x, t, T, b, rfl, ht, hk, q⟩ := h
  obtain ⟨u, c, rfl, ru, rc⟩ := vals2 r
  cases rc
  exact Aa8 I ru ht hk fun tk => ⟨.bl b, H, I.tok tk, rfl, q⟩
end
theorem Same.tup {K : PySem.W.Frag} {H H' : Hp} {a : Addr} {xs : List V} (e : Same H H') (h : SqT K H a xs) : SqT K H' a xs := by
  rcases h with (h | ⟨o, h⟩) | h
  . exact .inl (.inl (e _ _ h))
  . exact .inl (.inr ⟨o, e _ _ h⟩)
  . exact .inr h
theorem Same.upd {H : Hp} {p : Addr} (h : H p = none) (o : HO) : Same H (upd H p o) := fun b u q => by
  rw [Cm (Bt q h)]
  exact q
end L2
namespace L2
open PySem PySem.Spec PyProof.Rows
section
variable {X : Cx} {K : PySem.W.Frag} {σ : St} {H : Hp} {Q : VK} {D : Ends} {B : Bool -> Hp -> Prop}
theorem K7 {t u : TS} : Aiy t u D σ H = t { D with nx := u D } σ H := rfl
theorem Gp : Agk D σ H = D.nx σ H := rfl
theorem K4 {c : TT} {t u : TS} : Ai9 c t u D σ H = c σ H (fun b H1 => if b = true then t D σ H1 else u D σ H1) := rfl
theorem Lg {te : TE} : Aj3 te D σ H = te σ H D.rt := rfl
theorem Gn {te : TE} : Ae9 te D σ H = te σ H (fun _ H1 => D.nx σ H1) := rfl
theorem Kz {te : TE} {g : TG} : Agb te g D σ H = te σ H (fun x H1 => g x σ H1 D.nx) := rfl
theorem Dh {i : Nat} {v : V} {R : St -> Hp -> Prop} : Wx i v σ H R = R (σ.set i (some v)) H := rfl
theorem Ky {i j : Nat} {ta : TA} : Ai7 i j ta D σ H = ta σ H (fun vs H1 => ∃ v w, vs = [v, w] /\ D.nx ((σ.set i (some v)).set j (some w)) H1) := rfl
theorem Gq {v : V} {r : St} : Ael 0 (some v :: r) H Q = Q v H := propext ⟨fun ⟨_, e, h⟩ => by cases e; exact h, fun h => ⟨v, rfl, h⟩⟩
theorem Fx {i : Nat} {o : Option V} {r : St} : Ael (i + 1) (o :: r) H Q = Ael i r H Q := rfl
theorem z_c {v : V} : tC v σ H Q = Q v H := rfl
theorem U8 {r : R2} {ta tb : TE} : tOp r ta tb σ H Q = ta σ H (fun x H1 => tb σ H1 fun y H2 => r x y H2 Q) := rfl
theorem V0 {r : V -> Hp -> VK -> Prop} {ta : TE} : tUn r ta σ H Q = ta σ H (fun x H1 => r x H1 Q) := rfl
theorem Vw {C : Int -> Int -> Prop} {g : Int -> Int -> V} {i j : Int} : rI C g (.int i) (.int j) H Q = (C i j /\ Q (g i j) H) :=
  propext ⟨fun ⟨_, _, e, f, h⟩ => by cases e; cases f; exact h, fun h => ⟨i, j, rfl, rfl, h⟩⟩
theorem Ld {g : Int -> Int -> V} {i j : Int} : rI0 g (.int i) (.int j) H Q = Q (g i j) H :=
  propext ⟨fun ⟨_, _, e, f, h⟩ => by cases e; cases f; exact h, fun h => ⟨i, j, rfl, rfl, h⟩⟩
theorem Vy {g : Int -> V} {i : Int} : rU g (.int i) H Q = Q (g i) H := propext ⟨fun ⟨_, e, h⟩ => by cases e; exact h, fun h => ⟨i, rfl, h⟩⟩
theorem K8 {i j : Int} : rEq (.int i) (.int j) H Q = Q (.bl (decide (i = j))) H := by
  unfold rEq
  simp only [Ag9, V.int.injEq, true_and]
theorem Le {i j : Int} : rNe (.int i) (.int j) H Q = Q (.bl (!decide (i = j))) H := by
  unfold rNe
  simp only [Ag9, V.int.injEq, true_and]
theorem K6 {i j : Bool} : rEq (.bl i) (.bl j) H Q = Q (.bl (decide (i = j))) H := by
  unfold rEq
  simp only [Ag9, V.bl.injEq, true_and]
theorem Lb {i j : Bool} : rNe (.bl i) (.bl j) H Q = Q (.bl (!decide (i = j))) H := by
  unfold rNe
  simp only [Ag9, V.bl.injEq, true_and]
theorem Et {t : TE} : Agg t σ H B = t σ H (fun x H' => ∃ k, x = .bl k /\ B k H') := rfl
theorem Vz {t : TE} : tB t σ H B = t σ H (fun x H' => ∃ k, x = .bl k /\ B k H') := rfl
theorem Ku {b : Bool} {p : Bool -> Prop} : (∃ k, V.bl b = .bl k /\ p k) = p b := propext ⟨fun ⟨_, e, h⟩ => by cases e; exact h, fun h => ⟨b, rfl, h⟩⟩
theorem Lk {b : Int} {p : Int -> Prop} : (∃ k, V.int b = .int k /\ p k) = p b := propext ⟨fun ⟨_, e, h⟩ => by cases e; exact h, fun h => ⟨b, rfl, h⟩⟩
theorem Ko {a b : V} {p : V -> V -> Prop} : (∃ v w, [a, b] = [v, w] /\ p v w) = p a b := propext ⟨fun ⟨_, _, e, h⟩ => by cases e; exact h, fun h => ⟨a, b, rfl, h⟩⟩
theorem Gi {b : Int} {p : Int -> Prop} : (∃ k, [V.int b] = [.int k] /\ p k) = p b := propext ⟨fun ⟨_, e, h⟩ => by cases e; exact h, fun h => ⟨b, rfl, h⟩⟩
theorem Fw {a b : Int} {p : Int -> Int -> Prop} : (∃ i j, [V.int a, V.int b] = [.int i, .int j] /\ p i j) = p a b := propext ⟨fun ⟨_, _, e, h⟩ => by cases e; exact h, fun h => ⟨a, b, rfl, h⟩⟩
theorem K5 {t : TT} : Aj6 t σ H B = t σ H (fun c H1 => B (!c) H1) := rfl
theorem Lw {t u : TT} : Ajc t u σ H B = t σ H (fun c H1 => if c = true then u σ H1 B else B false H1) := rfl
theorem Vr {t u : TT} : tOr t u σ H B = t σ H (fun c H1 => if c = true then B true H1 else u σ H1 B) := rfl
theorem Fp {ta tb : TE} : Ag5 ta tb σ H Q = ta σ H (fun x H1 => ∃ c, x = .bl c /\ if c = true then tb σ H1 Q else Q (.bl false) H1) := rfl
theorem Ls {ta tb : TE} : Aju ta tb σ H Q = ta σ H (fun x H1 => ∃ c, x = .bl c /\ if c = true then Q (.bl true) H1 else tb σ H1 Q) := rfl
theorem Ge {ta : TE} : Ag4 ta σ H Q = ta σ H (fun x H1 => ∃ c, x = .bl c /\ Q (.bl (!c)) H1) := rfl
theorem V1 {t : TT} {ta tb : TE} : tIf t ta tb σ H Q = t σ H (fun c H1 => if c = true then ta σ H1 Q else tb σ H1 Q) := rfl
theorem Gz {sp : Sp} {dvs : List V} {E : XK} {t : TA} : Wj sp dvs E t σ H Q = t σ H (fun vs H1 => sp (vs ++ dvs) H1 Q E) := rfl
theorem Lj {R : List V -> Hp -> Prop} : Ajt σ H R = R [] H := rfl
theorem Gm {te : TE} {t : TA} {R : List V -> Hp -> Prop} : Adu te t σ H R = te σ H (fun x H1 => t σ H1 fun xs H2 => R (x :: xs) H2) := rfl
theorem Vu {r : List V -> Hp -> VK -> Prop} {t : TA} : tCB r t σ H Q = t σ H (fun vs H1 => r vs H1 Q) := rfl
theorem Ly {t : TA} : Aj9 t σ H Q = t σ H (fun xs H1 => xs.length <= sizeLine /\ ∀ p, H1 p = none -> Q (.ref p) (upd H1 p (.tup xs))) := rfl
theorem K1 {t : TA} : Ajg t σ H Q = t σ H (fun xs H1 => xs.length <= sizeLine /\ ∀ p, H1 p = none -> Q (.ref p) (upd H1 p (.lst xs))) := rfl
theorem Dw {r r' : R2} {ta tb tc : TE} : Aih r r' ta tb tc σ H Q = ta σ H (fun x H1 => tb σ H1 fun y H2 => r x y H2 fun z H3 => ∃ k, z = .bl k /\ (if k = true then tc σ H3 fun w' H4 => r' y w' H4 Q else Q (.bl false) H3)) := rfl
theorem Ce {a : Addr} {xs : List V} {i : Int} {v : V} (h : SqT K H a xs) (e : atI xs i = some v) (q : Q v H) : Akj K (.ref a) (.int i) H Q := ⟨a, xs, i, v, rfl, rfl, h, e, q⟩
theorem Ack {a : Addr} {xs : List V} {i : Int} {v : V} (h : SqL K H a xs) (e : atI xs i = some v) (q : Q v H) : Ajz K (.ref a) (.int i) H Q := ⟨a, xs, i, v, rfl, rfl, h, e, q⟩
end
def Agp (_ j : Int) : Prop := 0 < j /\ j.natAbs.log2 < 9000
theorem Er {X : Cx} : OpR X (binaryOp .FloorDiv) (rI Agp fun i j => .int (i / j)) := opI fun i j _ _ _ _ _ hc q => by
  have h : j ≠ 0 := by have := hc.1; omega
  refine floordiv_int h ?_ (.inl (PyProof.noPylong_of_log2 hc.2))
  rw [Int.fdiv_eq_ediv_of_nonneg _ (Int.le_of_lt hc.1)]
  exact q
theorem Gy : (1 : Nat) <= sizeLine := by decide
theorem Gg : (2 : Nat) <= sizeLine := by decide
end L2
namespace L2
open PySem PySem.Spec PyProof.Rows
def clF (env : Env) (cs : List (Str × Addr)) (x : Str × NameKind) : List (Str × Addr) := if x.2 == .free then (x.1, (env.cells.lookup x.1).getD 0) :: cs else cs
theorem Yw {scope : Scope} {env : Env} (h : ∀ x ∈ scope.names, x.2 = .free -> ∃ c, env.cells.lookup x.1 = some c) : closureFor scope env = pure (scope.names.foldl (clF env) []) := by
  unfold closureFor
  have key : ∀ (names : List (Str × NameKind)) (init : List (Str × Addr)), (∀ x ∈ names, x.2 = .free -> ∃ c, env.cells.lookup x.1 = some c) ->
      (forIn names init (fun (x : Str × NameKind) (cs : List (Str × Addr)) => (if x.2 == .free then (do let c <- cellOf env x.1; pure (ForInStep.yield ((x.1, c) :: cs))) else pure (ForInStep.yield cs) : Sem (ForInStep (List (Str × Addr)))))) = (pure (names.foldl (clF env) init) : Sem (List (Str × Addr))) := by
    intro names
    induction names with
    | nil => intro init _; rfl
    | cons x r ih =>
      intro init hx
      rw [List.forIn_cons, List.foldl_cons]
      by_cases hf : x.2 = .free
      . obtain ⟨c, hc⟩ := hx x List.mem_cons_self hf
        have e1 : cellOf env x.1 = pure c := by unfold cellOf; rw [hc]
        have e2 : clF env init x = (x.1, c) :: init := by unfold clF; rw [hf, hc]; rfl
        rw [e2, <- ih _ fun y hy => hx y (List.mem_cons_of_mem _ hy)]
        rw [hf, e1]
        rfl
      . have e0 : (x.2 == NameKind.free) = false := by simpa using hf
        have e2 : clF env init x = init := by unfold clF; rw [e0]; rfl
        rw [e2, <- ih _ fun y hy => hx y (List.mem_cons_of_mem _ hy), e0]
        rfl
  exact (congrArg (fun m => m >>= fun r => pure r) (key scope.names [] h)).trans (by rfl)
theorem Xx {env : Env} : ∀ (names : List (Str × NameKind)) (init : List (Str × Addr)) (y : Str) (c : Addr), (∀ x ∈ names, x.2 = .free -> ∃ c, env.cells.lookup x.1 = some c) -> (names.foldl (clF env) init).lookup y = some c -> init.lookup y = some c \/ env.cells.lookup y = some c
  | [], _, _, _, _, h => .inl h
  | x :: r, init, y, c, hx, h => by
    rw [List.foldl_cons] at h
    rcases Xx r _ y c (fun z hz => hx z (List.mem_cons_of_mem _ hz)) h with h1 | h1
    . unfold clF at h1
      by_cases hf : x.2 = .free
      . obtain ⟨d, hd⟩ := hx x List.mem_cons_self hf
        rw [hf, hd] at h1
        change List.lookup y ((x.1, d) :: init) = some c at h1
        rw [List.lookup_cons] at h1
        cases hy : y == x.1 with
        | true =>
          rw [hy] at h1
          have : y = x.1 := by simpa using hy
          subst this
          exact .inr (hd.trans h1)
        | false =>
          rw [hy] at h1
          exact .inl h1
      . have e0 : (x.2 == NameKind.free) = false := by simpa using hf
        rw [e0] at h1
        exact .inl h1
    . exact .inr h1
theorem W8 {env : Env} : ∀ (names : List (Str × NameKind)) (init : List (Str × Addr)) (y : Str), ((∃ x ∈ names, x.2 = .free /\ x.1 = y) \/ ∃ c, init.lookup y = some c) -> ∃ c, (names.foldl (clF env) init).lookup y = some c
  | [], _, _, h => by
    rcases h with ⟨_, h, _⟩ | h
    . cases h
    . exact h
  | x :: r, init, y, h => by
    rw [List.foldl_cons]
    apply W8 r
    rcases h with ⟨z, hz, hf, rfl⟩ | ⟨c, hc⟩
    . rcases List.mem_cons.mp hz with rfl | hz
      . refine .inr ⟨(env.cells.lookup z.1).getD 0, ?_⟩
        unfold clF
        rw [hf]
        show List.lookup z.1 ((z.1, _) :: init) = _
        rw [List.lookup_cons]
        simp
      . exact .inl ⟨z, hz, hf, rfl⟩
    . refine .inr ?_
      unfold clF
      by_cases hf : x.2 = .free
      . rw [hf]
        show ∃ c, List.lookup y ((x.1, _) :: init) = some c
        rw [List.lookup_cons]
        cases y == x.1 with
        | true => exact ⟨_, rfl⟩
        | false => exact ⟨c, hc⟩
      . have e0 : (x.2 == NameKind.free) = false := by simpa using hf
        rw [e0]
        exact ⟨c, hc⟩
theorem Vc {prog : Program} {w : World} {A : Around} {R : Result -> Shared -> Prop} {s : Shared} {elt target iter : Expr} {ifs : List Expr} {scope : Scope} {pos : Pos} {it acc : Value} {env : Env} (I : Nat -> Shared -> Prop)
    (turn : ∀ n s, I n s -> wpAny (model prog w) A (pyNext it) (fun r s₁ => match r with
      | none => R (.ok .next) s₁
      | some v => wpAny (model prog w) A (letOwnedTupleGo target it v) (fun _ s₀ => wpAny (model prog w) A (assign target env v) (fun _ s₂ =>
          wpAny (model prog w) A (forIn ifs true fun c r => if r = true then do let ok <- isTrue c env (eval c env); pure (ForInStep.yield ok) else pure (ForInStep.yield r)) (fun ok s₃ =>
            if ok = true then wpAny (model prog w) A (eval elt env) (fun x s₄ =>
              wpAny (model prog w) A (call (.builtin "list.append") [acc, x]) (fun _ s₅ => ∃ m, m < n /\ I m s₅) (fun _ _ => False) s₄) (fun _ _ => False) s₃
            else ∃ m, m < n /\ I m s₃) (fun _ _ => False) s₂) (fun _ _ => False) s₀) (fun _ _ => False) s₁) (fun _ _ => False) s)
    (n : Nat) (h : I n s) :
    codeAny (model prog w) A (.compLoop (.ListComp elt [⟨target, iter, ifs, 0⟩] scope pos) 0 it acc env) R s := by
  have no : ∀ (x : Value) (s' : Shared), False -> notedBy (model prog w) A env (fun e s' => R (.error e) s') x s' := fun _ _ z => z.elim
  refine codeAny_loop rfl I (fun n s hI => ?_) n h
  show wpAny _ A ((compTurn (.ListComp elt [⟨target, iter, ifs, 0⟩] scope pos) 0 it acc env).onRaise (fun x => do noteFrame x env; theTreesLotGoes x)) _ _ s
  refine wpAny_noted ?_
  rw [compTurn_list]
  refine wpAny_bind (wpAny_standAt (wpAny_bind (wpAny_mono (turn n s hI) (fun r s₁ h₁ => ?_) no)))
  cases r with
  | none => exact wpAny_pure h₁
  | some v =>
    refine wpAny_bind (wpAny_mono h₁ (fun _ s₀ h₀ => ?_) no)
    refine wpAny_bind (wpAny_mono h₀ (fun _ s₂ h₂ => wpAny_bind (wpAny_mono h₂ (fun ok s₃ h₃ => ?_) no)) no)
    cases ok with
    | false => exact wpAny_pure ⟨rfl, h₃⟩
    | true =>
      exact wpAny_bind (wpAny_bind (wpAny_mono h₃ (fun x s₄ h₄ => wpAny_bind (wpAny_mono h₄ (fun _ s₅ h₅ => wpAny_pure (wpAny_pure ⟨rfl, h₅⟩)) no)) no))
def cxC (X : Cx) (N : List Str) (scope : Scope) (ex : List Addr) (s : Shared) (H : Hp) : Cx where
  prog := X.prog
  w := X.w
  K := X.K
  mg := X.mg
  base := X.base
  A := X.A
  N := N
  s₀ := s
  H₀ := H
  env := compEnvC scope (scope.names.foldl (clF X.env) []) s.heap.objs.size X.env
  outer := X.stack
  stack := X.stack
  ex := ex
  fn := fun _ => false
  calm := X.calm
  pn := []
  xe := fun _ _ => False
structure Cq (X : Cx) (ts : List Str) (fs : List (Nat × Str)) (scope : Scope) : Prop where
  kind : scope.kind = .function
  cell : ∀ y ∈ scope.names, y.2 ≠ .cell
  names : ∀ y ∈ scope.names, y.2 = .local -> scope.names.lookup y.1 = some .local
  free : ∀ y ∈ scope.names, y.2 = .free -> X.env.kindOf y.1 = some .cell \/ X.env.kindOf y.1 = some .free
  at' : ∀ p ∈ fs, X.N[p.1]? = some p.2 /\ (p.2, NameKind.free) ∈ scope.names /\ ((relabel scope X.env).names.lookup p.2 = some .cell \/ (relabel scope X.env).names.lookup p.2 = some .free)
def rlb (sc scope : Scope) : List (Str × NameKind) := scope.names.map fun (n, k) => if (k == NameKind.free && sc.kind == .function && sc.names.lookup n == some .cell) then (n, NameKind.cell) else (n, k)
def Akl (sc : Scope) (N : List Str) (fs : List (Nat × Str)) (scope : Scope) : Bool :=
  (scope.kind == .function) && (scope.names.all fun y => y.2 != .cell) && (scope.names.all fun y => y.2 != .local || scope.names.lookup y.1 == some .local) &&
  (scope.names.all fun y => y.2 != .free || (sc.names.lookup y.1 == some .cell || sc.names.lookup y.1 == some .free)) &&
  fs.all fun p => N[p.1]? == some p.2 && (scope.names.contains (p.2, NameKind.free) && ((rlb sc scope).lookup p.2 == some .cell || (rlb sc scope).lookup p.2 == some .free))
theorem Cq.of {X : Cx} {ts : List Str} {fs : List (Nat × Str)} {scope sc : Scope} {N : List Str} (e1 : X.env.scope = sc) (e2 : X.N = N) (h : Akl sc N fs scope = true) : Cq X ts fs scope := by
  unfold Akl at h
  simp only [Bool.and_eq_true, List.all_eq_true, Bool.or_eq_true, bne_iff_ne, beq_iff_eq, List.contains_iff_mem] at h
  obtain ⟨⟨⟨⟨h1, h2⟩, h3⟩, h4⟩, h5⟩ := h
  refine ⟨h1, h2, fun y hy e => ?_, fun y hy e => ?_, fun p hp => ?_⟩
  . rcases h3 y hy with z | z
    . exact absurd e z
    . exact z
  . rcases h4 y hy with z | z
    . exact absurd e z
    . show X.env.scope.names.lookup y.1 = _ \/ X.env.scope.names.lookup y.1 = _
      rw [e1]
      exact z
  . obtain ⟨a, b, c⟩ := h5 p hp
    refine ⟨by rw [e2]; exact a, b, ?_⟩
    subst e1
    exact c
def cpN (ts : List Str) (fs : List (Nat × Str)) : List Str := ts ++ fs.map (·.2)
def cpσ (n : Nat) (fs : List (Nat × Str)) (σ : St) : St := List.replicate n none ++ fs.map fun p => (σ[p.1]?).join
theorem Jr {env : Env} {x : Str} {k' : NameKind} : ∀ {names : List (Str × NameKind)}, (names.map fun (n, k) => if (k == NameKind.free && env.scope.kind == .function && env.kindOf n == some .cell) then (n, NameKind.cell) else (n, k)).lookup x = some k' ->
    ∃ k, (x, k) ∈ names /\ (k' = k \/ (k = .free /\ k' = .cell))
  | [], h => by simp at h
  | (n, k) :: r, h => by
    rw [List.map_cons] at h
    dsimp only at h
    by_cases hc : (k == NameKind.free && env.scope.kind == .function && env.kindOf n == some .cell) = true
    . rw [if_pos hc, List.lookup_cons] at h
      cases hx : x == n with
      | true =>
        rw [hx] at h
        have e : x = n := by simpa using hx
        subst e
        have hk : k = .free := by
          rw [Bool.and_eq_true, Bool.and_eq_true] at hc
          simpa using hc.1.1
        exact ⟨k, List.mem_cons_self, .inr ⟨hk, (Option.some.inj h).symm⟩⟩
      | false =>
        rw [hx] at h
        obtain ⟨k2, h1, h2⟩ := Jr h
        exact ⟨k2, List.mem_cons_of_mem _ h1, h2⟩
    . rw [if_neg hc, List.lookup_cons] at h
      cases hx : x == n with
      | true =>
        rw [hx] at h
        have e : x = n := by simpa using hx
        subst e
        exact ⟨k, List.mem_cons_self, .inl (Option.some.inj h).symm⟩
      | false =>
        rw [hx] at h
        obtain ⟨k2, h1, h2⟩ := Jr h
        exact ⟨k2, List.mem_cons_of_mem _ h1, h2⟩
def PTs (X : Cx) (ifs : List Expr) (t : TT) : Prop :=
  ∀ (pins : List (Addr × Obj)) (s : Shared) (σ : St) (H : Hp) (B : Bool -> Hp -> Prop), Inv X pins σ H s -> t σ H B ->
    wpAny (model X.prog X.w) X.A (forIn ifs true fun c r => if r = true then do let ok <- isTrue c X.env (eval c X.env); pure (ForInStep.yield ok) else pure (ForInStep.yield r)) (TP X pins σ B) X.xe s
def Acz : TT := fun _ H B => B true H
theorem Iu {X : Cx} : PTs X [] Acz := fun _ _ _ H _ I h => wpAny_pure ⟨H, I, h⟩
theorem W3 {X : Cx} {c : Expr} {t : TT} (h : PT X c t) : PTs X [c] t := by
  intro pins s σ H B I hw
  rw [List.forIn_cons]
  simp only [if_true]
  refine wpAny_bind (wpAny_bind (thn (h pins s σ H B I hw) fun b s1 q => wpAny_pure ?_))
  exact wpAny_pure q
def Kp (σ σ' : St) : Prop := σ'.length = σ.length /\ ∀ (i : Nat) v, σ[i]? = some (some v) -> σ'[i]? = some (some v)
def cIn (J : It) (cσ : St) (g : TG) (tt : TT) (te : TE) (Q : VK) (H1 : Hp) (p : Addr) : Prop := ∃ W : Nat -> Nat -> List V -> Hp -> Prop, (∃ m, W 0 m [] (upd H1 p (.lst []))) /\ ∀ i m acc H2, W i m acc H2 ->
  (J.stop i H2 /\ Q (.ref p) H2) \/ (J.go i H2 /\ ∀ x H3, J.yld i H2 x H3 -> g x cσ H3 fun σ4 H4 => Kp cσ σ4 /\ tt σ4 H4 fun b H5 =>
    if b = true then te σ4 H5 fun y H6 => H6 p = some (.lst acc) /\ acc.length < sizeLine /\ ∃ m', m' < m /\ W (i + 1) m' (acc ++ [y]) (upd H6 p (.lst (acc ++ [y]))) else ∃ m', m' < m /\ W (i + 1) m' acc H5)
def Y7 (n : Nat) (fs : List (Nat × Str)) (wi : TI) (g : TG) (tt : TT) (te : TE) : TE := fun σ H Q => wi σ H fun J H1 => ∀ p, H1 p = none -> cIn J (cpσ n fs σ) g tt te Q H1 p
section
variable {X : Cx} {elt tg iter : Expr} {ifs : List Expr} {scope : Scope} {pos : Pos} {wi : TI} {g : TG} {tt : TT} {te : TE} {ts : List Str} {fs : List (Nat × Str)}
theorem Cq.clos (S : Cq X ts fs scope) (ok : X.Ok) : ∀ x ∈ scope.names, x.2 = .free -> ∃ c, X.env.cells.lookup x.1 = some c := fun x hx hf => ok.has x.1 (S.free x hx hf)
theorem Cq.sub (S : Cq X ts fs scope) (ok : X.Ok) {y : Str} {c : Addr} (h : (scope.names.foldl (clF X.env) []).lookup y = some c) : X.env.cells.lookup y = some c := by
  rcases Xx scope.names [] y c (S.clos ok) h with z | z
  . simp at z
  . exact z
theorem Yj {pins : List (Addr × Obj)} {σ : St} {H : Hp} {s3 s4 : Shared} {ex : List Addr} (S : Cq X ts fs scope) (I : Inv X pins σ H s3)
    (hex : ∀ b ∈ ex, Vt X pins H b /\ ∃ o, s3.heap.get? b = some o) (hos : s4.os = s3.os) (hg : s4.gens = s3.gens) (hk : ∀ b u, s3.heap.get? b = some u -> s4.heap.get? b = some u)
    (hn : s4.heap.Ns s3.heap.objs.size fun _ => none) : Inv (cxC X (cpN ts fs) scope ex s3 H) [] (cpσ ts.length fs σ) H s4 := by
  have ok := I.ok
  have noC : ∀ b ∈ ex, b ≠ s3.heap.objs.size := fun b hb => by
    obtain ⟨_, o, ho⟩ := hex b hb
    exact Nat.ne_of_lt (Heap.lt_size ho)
  refine ⟨⟨ok.mod, S.kind, ok.glob, ok.blt, Nat.le_refl _, fun y z c h1 h2 => ok.inj y z c (S.sub ok h1) (S.sub ok h2), fun y hy => ?_, fun y c h _ => absurd h (by intro z; cases z), ok.hd, ok.frames, .inl rfl, fun b hb => ⟨noC b hb, fun x c e => (hex b hb).1.2.2.2.2.1 x c (S.sub ok e)⟩,
    I.bs, Nat.le_trans ok.bsz I.sz, fun b o e hb => ?_, fun b hb => ?_, I.stack, I.stkFree⟩, hos, by rw [hg]; exact I.bare, Un.kept hk, ⟨_, hn, fun i x v h1 h2 h3 => ?_⟩, fun y c e => ?_, I.hok.fresh (Nat.le_refl _), fun y c e => I.freeC y c (S.sub ok e),
    fun p hp => absurd (show p ∈ ([] : List (Addr × Obj)) from hp) (by simp), I.hok.kept hk, ?_⟩
  . have z : ∃ k', (k' = NameKind.cell \/ k' = .free) /\ (scope.names.map fun (n, k) => if (k == NameKind.free && X.env.scope.kind == .function && X.env.kindOf n == some .cell) then (n, NameKind.cell) else (n, k)).lookup y = some k' := by
      rcases hy with hy | hy
      . exact ⟨_, .inl rfl, hy⟩
      . exact ⟨_, .inr rfl, hy⟩
    obtain ⟨k', hk', hl⟩ := z
    obtain ⟨k, hm, h2⟩ := Jr hl
    have hf : k = .free := by
      rcases h2 with e | ⟨e, _⟩
      . subst e
        rcases hk' with e | e
        . exact absurd e (S.cell _ hm)
        . exact e
      . exact e
    exact W8 scope.names [] y (.inl ⟨_, hm, hf, rfl⟩)
  . rcases (hex b hb).1.2.2.2.1 with z | z
    . exact ok.noex b o e z
    . exact absurd (Nat.lt_of_lt_of_le (Heap.lt_size e) (Nat.le_trans ok.bsz z)) (Nat.lt_irrefl _)
  . intro hb2
    rcases List.mem_cons.mp (I.stkSub b hb2) with e | e
    . exact (hex b hb).1.2.1 e
    . exact (hex b hb).1.2.2.1 e
  . unfold cpσ at h2
    by_cases hi : i < ts.length
    . rw [List.getElem?_append_left (by simpa using hi), List.getElem?_replicate] at h2
      split at h2 <;> cases h2
    . rw [List.getElem?_append_right (by simpa using hi), List.length_replicate] at h2
      have h1' : (cpN ts fs)[i]? = some x := h1
      unfold cpN at h1'
      rw [List.getElem?_append_right (by omega)] at h1'
      rw [List.getElem?_map] at h1' h2
      cases e : fs[i - ts.length]? with
      | none => rw [e] at h1'; cases h1'
      | some p =>
        rw [e] at h1' h2
        have ex' : p.2 = x := Option.some.inj h1'
        have e2 : (σ[p.1]?).join = some v := Option.some.inj h2
        have e3 : σ[p.1]? = some (some v) := by
          cases q : σ[p.1]? with
          | none => rw [q] at e2; cases e2
          | some o => rw [q] at e2; cases o with | none => cases e2 | some v' => cases e2; rfl
        obtain ⟨a1, a2, a3⟩ := S.at' p (List.mem_of_getElem? e)
        obtain ⟨m, _, hl⟩ := I.loc
        have kd := S.free _ a2 rfl
        have vis : Vis X.env.scope p.2 := by
          rcases kd with z | z
          . exact .inr (.inl z)
          . exact .inr (.inr z)
        obtain ⟨u, r, l⟩ := hl p.1 p.2 v a1 e3 vis
        refine ⟨u, r, ?_⟩
        rcases l with ⟨z, _⟩ | ⟨_, c, hc, hcell⟩
        . rcases kd with q | q
          . rw [q] at z; cases z
          . rw [q] at z; cases z
        . obtain ⟨c', hc'⟩ := W8 (env := X.env) scope.names [] p.2 (.inl ⟨_, a2, rfl, rfl⟩)
          have ec : c' = c := Option.some.inj ((S.sub ok hc').symm.trans hc)
          subst ec
          subst ex'
          refine .inr ⟨?_, c', hc', ?_⟩
          . exact a3
          . obtain ⟨o, ho, hd⟩ := hcell
            exact ⟨o, hk _ _ ho, hd⟩
  . obtain ⟨v, o, ho, hd⟩ := I.cell y c (S.sub ok e)
    exact ⟨v, o, hk _ _ ho, hd⟩
  . unfold cpσ
    show _ = (cpN ts fs).length
    unfold cpN
    simp
theorem Xc {pins : List (Addr × Obj)} {σ σ' : St} {H H' : Hp} {s3 s5 : Shared} {h' : Heap} {ex : List Addr} (S : Cq X ts fs scope) (I : Inv X pins σ H s3) (hex : ∀ b ∈ ex, Vt X pins H b)
    (J : Inv (cxC X (cpN ts fs) scope ex s3 H) [] σ' H' s5) (sb : Heap.SameBut s3.heap.objs.size s5.heap h') : Inv X pins σ H' { s5 with heap := h' } := by
  have nC : H' s3.heap.objs.size = none := J.free
  have old : ∀ b o, b ≠ s3.heap.objs.size -> s5.heap.get? b = some o -> h'.get? b = some o := fun b o hb e => sb.extBut b o hb e
  have lt : ∀ b o, s3.heap.get? b = some o -> b ≠ s3.heap.objs.size := fun b o e => Nat.ne_of_lt (Heap.lt_size e)
  have u : Un (frs X.stack) ex H H' s3.heap s5.heap := J.base
  have u2 : Un (frs X.stack) ex H H' s3.heap h' :=
    ⟨fun b o e n hb hx => old b o (lt b o e) (u.keep b o e n hb hx), fun b o e n hb hx => by
      obtain ⟨sl, q⟩ := u.slot b o e n hb hx
      exact ⟨sl, old b _ (lt b o e) q⟩, u.free, fun b o e hx => by
      obtain ⟨o', q⟩ := u.there b o e hx
      exact ⟨o', old b o' (lt b o e) q⟩, u.tups, u.frzs, u.tbls⟩
  have hok : HOk X.prog X.w H' h' := fun b o e => by
    have nb : b ≠ s3.heap.objs.size := fun z => by rw [z, nC] at e; cases e
    refine (J.hok b o e).stay (fun c v hc q => old c v ?_ q) (fun _ q => q) fun _ _ q => q
    rcases hc with z | z
    . rw [z]; exact nb
    . intro z2; rw [z2, nC] at z; cases z
  exact I.call' (s' := { s5 with heap := h' }) (ch := ex) J.os u2 hok J.bare fun b hb => ⟨(hex b hb).2.2.2.1, (hex b hb).2.1, (hex b hb).2.2.2.2.1, (hex b hb).2.2.2.2.2⟩
theorem Inv.fade {pins : List (Addr × Obj)} {σ σ' : St} {H : Hp} {s : Shared} (I : Inv X pins σ' H s) (k : Kp σ σ') : Inv X pins σ H s := by
  refine ⟨I.ok, I.os, I.bare, I.base, ?_, I.cell, I.free, I.freeC, I.pin, I.hok, k.1.symm.trans I.len⟩
  obtain ⟨m, hn, hl⟩ := I.loc
  exact ⟨m, hn, fun i x v h1 h2 h3 => hl i x v h1 (k.2 i v h2) h3⟩
theorem Adl {pins : List (Addr × Obj)} {σ : St} {H3 : Hp} {s3 s4 : Shared} {Q : VK} {R : Result -> Shared -> Prop} {fp : List Addr} {it p : Addr} {tn : Nat -> Heap -> Prop} {J : It} {W : Nat -> Nat -> List V -> Hp -> Prop} {m0 : Nat} (hc : X.calm = true) (S : Cq X ts fs scope)
    (hg : ∀ ex s H, PG (cxC X (cpN ts fs) scope ex s H) tg g) (ht : ∀ ex s H, PTs (cxC X (cpN ts fs) scope ex s H) ifs tt) (he : ∀ ex s H, PE (cxC X (cpN ts fs) scope ex s H) elt te)
    (I3 : Inv X pins σ H3 s3) (T : Turn X.prog X.w X.K tg J fp it tn) (hex : ∀ b ∈ fp, Vt X pins H3 b) (lt : ∀ b ∈ fp, b < s3.heap.objs.size)
    (I4 : Inv (cxC X (cpN ts fs) scope fp s3 H3) [] (cpσ ts.length fs σ) H3 s4) (st4 : tn 0 s4.heap) (w0 : W 0 m0 [] H3)
    (fin : ∀ H5 s6, Inv (cxC X (cpN ts fs) scope fp s3 H3) [] (cpσ ts.length fs σ) H5 s6 -> Q (.ref p) H5 -> R (.ok .next) s6)
    (turn : ∀ i m acc H2, W i m acc H2 -> (J.stop i H2 /\ Q (.ref p) H2) \/ (J.go i H2 /\ ∀ x H3, J.yld i H2 x H3 -> g x (cpσ ts.length fs σ) H3 fun σ4 H4 => Kp (cpσ ts.length fs σ) σ4 /\ tt σ4 H4 fun b H5 =>
      if b = true then te σ4 H5 fun y H6 => H6 p = some (.lst acc) /\ acc.length < sizeLine /\ ∃ m', m' < m /\ W (i + 1) m' (acc ++ [y]) (upd H6 p (.lst (acc ++ [y]))) else ∃ m', m' < m /\ W (i + 1) m' acc H5)) :
    codeAny (model X.prog X.w) X.A (.compLoop (.ListComp elt [⟨tg, iter, ifs, 0⟩] scope pos) 0 (.ref it) (.ref p) (cxC X (cpN ts fs) scope fp s3 H3).env) R s4 := by
  have stat : ∀ {H' : Hp}, (∀ b ∈ fp, H' b = none) -> ∀ b ∈ fp, Vt (cxC X (cpN ts fs) scope fp s3 H3) [] H' b := fun hn b hb =>
    ⟨hn b hb, Nat.ne_of_lt (lt b hb), fun z => (List.mem_cons.mp (I3.stkSub b z)).elim (hex b hb).2.1 (hex b hb).2.2.1, .inl hb, fun x c e => (hex b hb).2.2.2.2.1 x c (S.sub I3.ok e), fun q hq => absurd (show q ∈ ([] : List (Addr × Obj)) from hq) (by simp)⟩
  refine Vc (fun n s' => ∃ i acc H', Inv (cxC X (cpN ts fs) scope fp s3 H3) [] (cpσ ts.length fs σ) H' s' /\ tn i s'.heap /\ (∀ b ∈ fp, H' b = none) /\ W i n acc H') ?_ m0 ⟨0, [], H3, I4, st4, fun b hb => (hex b hb).1, w0⟩
  rintro n s5 ⟨i, acc, H5, I5, st5, fr5, w5⟩
  rcases turn i n acc H5 w5 with ⟨stop, q⟩ | ⟨go, step⟩
  . refine thn (T.done (cxC X (cpN ts fs) scope fp s3 H3) rfl rfl rfl hc i [] s5 _ H5 _ I5 (stat fr5) st5 stop) fun r s6 ⟨hr, I6⟩ => ?_
    subst hr
    exact fin H5 s6 I6 q
  . refine thn (T.item (cxC X (cpN ts fs) scope fp s3 H3) rfl rfl rfl hc i [] s5 _ H5 _ I5 (stat fr5) st5 go) fun r s6 ⟨u, hr, h6⟩ => ?_
    subst hr
    refine thn h6 fun _ s7 ⟨x, H7, I7, r7, y7, st7, fr7⟩ => ?_
    have I7' := I7.pinned (stat fr7) (T.obj _ _ st7)
    refine thn (hg fp s3 H3 _ s7 _ H7 x u _ I7' r7 (step x H7 y7)) fun _ s8 ⟨σ8, H8, I8, kp, q8⟩ => ?_
    have again : ∀ {H9 : Hp} {s9 : Shared} {acc' : List V} {m' : Nat}, Inv (cxC X (cpN ts fs) scope fp s3 H3) ([] ++ Us fp s7.heap) σ8 H9 s9 -> m' < n -> W (i + 1) m' acc' H9 ->
        ∃ m, m < n /\ ∃ i acc H', Inv (cxC X (cpN ts fs) scope fp s3 H3) [] (cpσ ts.length fs σ) H' s9 /\ tn i s9.heap /\ (∀ b ∈ fp, H' b = none) /\ W i m acc H' := fun {H9 s9 acc' m'} I9 hm w9 => by
      refine ⟨m', hm, i + 1, acc', H9, (I9.fade kp).unpinned, T.keep _ _ _ st7 fun b hb o e => (I9.pin (b, o) (List.mem_append_right _ (List.mem_append_right _ (Ip hb e)))).1, fun b hb => ?_, w9⟩
      obtain ⟨o, e, d⟩ := T.obj _ _ st7 b hb
      exact (I9.pin (b, o) (List.mem_append_right _ (List.mem_append_right _ (Ip hb e)))).2.1
    refine thn (ht fp s3 H3 _ s8 σ8 H8 _ I8 q8) fun ok s9 ⟨H9, I9, q9⟩ => ?_
    cases ok with
    | false =>
      rw [if_neg Bool.false_ne_true] at q9 ⊢
      obtain ⟨m', hm, w9⟩ := q9
      exact again I9 hm w9
    | true =>
      rw [if_pos rfl] at q9 ⊢
      refine thn (he fp s3 H3 _ s9 σ8 H9 _ I9 q9) fun y s10 ⟨yv, H10, I10, r10, hp10, hlen, m', hm, w10⟩ => ?_
      exact thn (M8 _ s10 σ8 H10 (.ref p) [yv] (.ref p) [y] _ I10 rfl (.cons r10 .nil) ⟨p, acc, yv, rfl, rfl, hp10, hlen, w10⟩) fun _ s11 ⟨_, H11, I11, _, w11⟩ => again I11 hm w11
set_option maxHeartbeats 2000000 in
theorem R9 {pos' : Pos} {pins : List (Addr × Obj)} {σ : St} {H : Hp} {s : Shared} {Q : VK} {QQ : Value -> Shared -> Prop} {use : Option (Value -> Sem Unit)} (hc : X.calm = true) (S : Cq X ts fs scope) (hi : PI X tg iter wi) (hg : ∀ ex s H, PG (cxC X (cpN ts fs) scope ex s H) tg g) (ht : ∀ ex s H, PTs (cxC X (cpN ts fs) scope ex s H) ifs tt)
    (he : ∀ ex s H, PE (cxC X (cpN ts fs) scope ex s H) elt te) (hs : ∀ x, foldedSetIterable iter X.env x = pure x) (I : Inv X pins σ H s) (h : Y7 ts.length fs wi g tt te σ H Q)
    (fin : ∀ (H3 : Hp) (s3 : Shared) (fp : List Addr) (p : Addr) (H5 : Hp) (s6 : Shared), Inv X pins σ H3 s3 -> (∀ b ∈ fp, Vt X pins H3 b) -> Inv (cxC X (cpN ts fs) scope fp s3 H3) [] (cpσ ts.length fs σ) H5 s6 -> Q (.ref p) H5 -> compPost (model X.prog X.w) X.A X.xe use QQ (.ref p) s3.heap.objs.size (.ok .next) s6) :
    wpAny (model X.prog X.w) X.A (comprehension (.ListComp elt [⟨tg, iter, ifs, 0⟩] scope pos) scope X.env pos' (newList []) false (eval iter X.env) use) QQ X.xe s := by
  refine wpAny_comprehension_free (use := use) rfl hs (Yw (S.clos I.ok)) S.kind S.names (thn (hi pins s σ H _ I h) fun v s1 h1 => thn h1 fun itv s2 h2 => ?_)
  obtain ⟨it, fp, tn, J, H2, rfl, I2, T, st2, f2, hw⟩ := h2
  refine wpAny_newObj_type (wpAny_newFunctionEnv S.cell (by intro y hy; simp at hy) (fun h₁ hns₁ hsb₁ => ?_) S.kind)
  dsimp only at hns₁ hsb₁ ⊢
  have I3 := I2.lnew (its := []) (ys := []) (t' := s2.toks) .nil (Nat.zero_le _)
  have hD : H2 s2.heap.objs.size = none := I2.fresh
  obtain ⟨W, ⟨m0, w0⟩, turn⟩ := hw _ hD
  have up : ∀ b o, s2.heap.get? b = some o -> (s2.heap.push { cls := .type "list", data := .seq ([] : List Value).toArray }).get? b = some o := fun b o e => Heap.get?_push_of_some _ e
  have hex : ∀ b ∈ fp, Vt X pins (upd H2 s2.heap.objs.size (.lst [])) b /\ ∃ o, (s2.heap.push { cls := .type "list", data := .seq ([] : List Value).toArray }).get? b = some o := fun b hb => by
    obtain ⟨o, ho, _⟩ := T.obj _ _ st2 b hb
    have nb : b ≠ s2.heap.objs.size := Nat.ne_of_lt (Heap.lt_size ho)
    exact ⟨⟨by rw [Cm nb]; exact (f2 b hb).1, (f2 b hb).2⟩, o, up b o ho⟩
  have hk4 : ∀ b u, (s2.heap.push { cls := .type "list", data := .seq ([] : List Value).toArray }).get? b = some u -> h₁.get? b = some u := fun b u e =>
    hsb₁.extBut b u (Nat.ne_of_lt (Heap.lt_size e)) (Heap.get?_push_of_some _ e)
  have I4 := Yj (s4 := { s2 with heap := h₁, toks := s2.toks }) S I3 hex rfl rfl hk4 hns₁
  have st4 : tn 0 h₁ := T.keep _ _ _ st2 fun b _ o e => hk4 b o (up b o e)
  have run := Adl (elt := elt) (iter := iter) (pos := pos) hc S hg ht he I3 T (fun b hb => (hex b hb).1) (fun b hb => Heap.lt_size (hex b hb).2.choose_spec) I4 st4 w0 (fun H5 s6 I6 q => fin _ _ fp _ H5 s6 I3 (fun b hb => (hex b hb).1) I6 q) turn
  exact codeAny_compStart_list run (T.self X.A 0 _ _ _ st4 run)
theorem Jl (hc : X.calm = true) (S : Cq X ts fs scope) (hi : PI X tg iter wi) (hg : ∀ ex s H, PG (cxC X (cpN ts fs) scope ex s H) tg g) (ht : ∀ ex s H, PTs (cxC X (cpN ts fs) scope ex s H) ifs tt)
    (he : ∀ ex s H, PE (cxC X (cpN ts fs) scope ex s H) elt te) (hs : ∀ x, foldedSetIterable iter X.env x = pure x := by intro _; rfl) :
    PE X (.ListComp elt [⟨tg, iter, ifs, 0⟩] scope pos) (Y7 ts.length fs wi g tt te) := by
  intro pins s σ H Q I h
  rw [eval_ListComp]
  refine R9 (use := none) hc S hi hg ht he hs I h fun H3 s3 fp p H5 s6 I3 hex I6 q => ?_
  obtain ⟨m, hn, _⟩ := I6.loc
  exact ⟨m, hn, fun h' sb => ⟨.ref p, H5, Xc S I3 hex I6 sb, rfl, q⟩⟩
theorem Om {g' : TG} {y : Str} {py spos : Pos} (hc : X.calm = true) (S : Cq X ts fs scope) (hi : PI X tg iter wi) (hg : ∀ ex s H, PG (cxC X (cpN ts fs) scope ex s H) tg g) (ht : ∀ ex s H, PTs (cxC X (cpN ts fs) scope ex s H) ifs tt)
    (he : ∀ ex s H, PE (cxC X (cpN ts fs) scope ex s H) elt te) (hn : PG X (.Name y py) g') (hsw : swapsWith (.ListComp elt [⟨tg, iter, ifs, 0⟩] scope pos) (some (.Name y py)) spos.line X.env = pure true := by rfl) (hs : ∀ x, foldedSetIterable iter X.env x = pure x := by intro _; rfl) :
    PS X (.Assign [.Name y py] (.ListComp elt [⟨tg, iter, ifs, 0⟩] scope pos) spos) (Agb (Y7 ts.length fs wi g tt te) g') := by
  intro pins s σ H D I h
  rw [exec_Assign_Name_used _ _ _ _ hsw]
  refine wpAny_bind (wpAny_standAt (wpAny_bind ?_))
  show wpAny _ X.A (do let _ <- comprehension (.ListComp elt [⟨tg, iter, ifs, 0⟩] scope pos) scope X.env _ (newList []) false (eval iter X.env) (some (assign (.Name y py) X.env))) _ _ s
  refine wpAny_bind (wpAny_mono (R9 (use := some (assign (.Name y py) X.env)) (QQ := fun _ s' => SP X pins D .next s') hc S hi hg ht he hs I h fun H3 s3 fp p H5 s6 I3 hex I6 q => ?_) (fun _ s' hq => wpAny_pure (wpAny_pure hq)) fun _ _ e => e)
  have J : Inv X pins σ H5 s6 := Xc S I3 hex I6 (Heap.SameBut.refl _ _)
  obtain ⟨m, ⟨o, es, ep, ho, hd, hsk, hf⟩, _⟩ := I6.loc
  have ho' : s6.heap.get? s3.heap.objs.size = some o := ho
  have fC : Vt X pins H5 s3.heap.objs.size := I3.fpOk (Nat.le_refl _) I6.free
  have J' := J.pinned (fp := [s3.heap.objs.size]) (fun b hb => by
    have e : b = s3.heap.objs.size := by simpa using hb
    subst e
    exact fC) (fun b hb => by
    have e : b = s3.heap.objs.size := by simpa using hb
    subst e
    exact ⟨o, ho', fun v z => by rw [hd] at z; cases z⟩)
  refine thn (hn _ s6 σ H5 (.ref p) (.ref p) _ J' rfl q) fun _ s7 ⟨σ7, H7, I7, q7⟩ => ?_
  have pC := I7.pin (s3.heap.objs.size, o) (List.mem_append_right _ (List.mem_append_right _ (Ip (by simp) ho')))
  exact ⟨m, ⟨o, es, ep, pC.1, hd, hsk, hf⟩, fun h' sb => ⟨σ7, H7, I7.unpinned.turned (t' := s7.toks) (fun b o hb e => sb.extBut b o hb e) pC.2.1 fC.2.1 fC.2.2.2.1 fC.2.2.2.2.1 fC.2.2.2.2.2, q7⟩⟩
end
section
variable {K : PySem.W.Frag} {H1 : Hp} {p : Addr} {cσ : St} {g : TG} {te : TE} {Q : VK} {α : Type} {es : List α} {inj : α -> V}
def Wk (J : It) (H1 : Hp) (es : List α) (inj : α -> V) : Prop := ∀ i H', Same H1 H' -> (es[i]? = none -> J.stop i H') /\ ∀ e, es[i]? = some e -> J.go i H' /\ ∀ x H3, J.yld i H' x H3 -> H3 = H' /\ x = inj e
theorem Uh {a : Addr} (h : SqL K H1 a (es.map inj)) : Wk (Itl K a) H1 es inj := fun i H' s => by
  have h' := s.seq h
  refine ⟨fun e => ⟨_, h', ?_⟩, fun e he => ⟨⟨_, inj e, h', by rw [List.getElem?_map, he]; rfl⟩, fun x H3 ⟨e1, e2⟩ => ⟨e1, ?_⟩⟩⟩
  . rw [List.length_map]
    exact List.getElem?_eq_none_iff.mp e
  . have z := e2 _ h'
    rw [List.getElem?_map, he] at z
    exact (Option.some.inj z).symm
theorem Sq {a : Addr} (h : SqT K H1 a (es.map inj)) : Wk (Itt K a) H1 es inj := fun i H' s => by
  have h' := s.tup h
  refine ⟨fun e => ⟨_, h', ?_⟩, fun e he => ⟨⟨_, inj e, h', by rw [List.getElem?_map, he]; rfl⟩, fun x H3 ⟨e1, e2⟩ => ⟨e1, ?_⟩⟩⟩
  . rw [List.length_map]
    exact List.getElem?_eq_none_iff.mp e
  . have z := e2 _ h'
    rw [List.getElem?_map, he] at z
    exact (Option.some.inj z).symm
theorem Xz {lo : Int} {n : Nat} : Wk (Itr lo n) H1 (List.range n) (fun i => .int (lo + (i : Nat))) := fun i H' s => by
  refine ⟨fun e => ?_, fun e he => ?_⟩
  . have := List.getElem?_eq_none_iff.mp e
    show n <= i
    simpa using this
  . obtain ⟨h, z⟩ := List.getElem?_eq_some_iff.mp he
    have hi : i < n := by simpa using h
    have z' : i = e := by simpa using z
    subst z'
    exact ⟨hi, fun x H3 ⟨e1, e2⟩ => ⟨e1, e2⟩⟩
theorem Ju {J : It} (f : α -> V) (hz : es.length <= sizeLine) (hp : H1 p = none) (hJ : Wk J H1 es inj)
    (step : ∀ e H' R, e ∈ es -> Same H1 H' -> (∀ H6, Same H' H6 -> R (f e) H6) -> g (inj e) cσ H' fun σ4 H4 => Kp cσ σ4 /\ te σ4 H4 R)
    (done : ∀ H', Same H1 H' -> H' p = some (.lst (es.map f)) -> Q (.ref p) H') : cIn J cσ g Acz te Q H1 p := by
  have su : ∀ {H' : Hp} {o : HO}, Same H1 H' -> Same H1 (upd H' p o) := fun {H' o} s b u e => by
    rw [Cm (Bt e hp)]
    exact s b u e
  refine ⟨fun i m acc H' => m = es.length - i /\ i <= es.length /\ acc = (es.take i).map f /\ H' p = some (.lst acc) /\ Same H1 H', ⟨es.length, by simp, Nat.zero_le _, by simp, Af, su (Same.refl _)⟩, ?_⟩
  rintro i m acc H' ⟨rfl, hi, rfl, hH, s⟩
  cases he : es[i]? with
  | none =>
    have hl := List.getElem?_eq_none_iff.mp he
    have e : i = es.length := Nat.le_antisymm hi hl
    subst e
    rw [List.take_length] at hH
    exact .inl ⟨(hJ _ _ s).1 he, done _ s hH⟩
  | some e =>
    obtain ⟨go, yl⟩ := (hJ _ _ s).2 e he
    refine .inr ⟨go, fun x H3 y => ?_⟩
    obtain ⟨rfl, rfl⟩ := yl x H3 y
    obtain ⟨hlt, e'⟩ := List.getElem?_eq_some_iff.mp he
    have tk : es.take (i + 1) = es.take i ++ [e] := by rw [List.take_succ, he]; rfl
    have q := step e H3 (fun y H6 => H6 p = some (.lst ((es.take i).map f)) /\ ((es.take i).map f).length < sizeLine /\ ∃ m', m' < es.length - i /\ m' = es.length - (i + 1) /\ i + 1 <= es.length /\ (es.take i).map f ++ [y] = (es.take (i + 1)).map f /\
        upd H6 p (.lst ((es.take i).map f ++ [y])) p = some (.lst ((es.take i).map f ++ [y])) /\ Same H1 (upd H6 p (.lst ((es.take i).map f ++ [y])))) (List.mem_of_getElem? he) s
      (fun H6 s6 => ⟨s6 _ _ hH, by rw [List.length_map, List.length_take]; omega, _, by omega, rfl, hlt, by rw [tk, List.map_append]; rfl, Af, su (s.trans s6)⟩)
    have eq : ∀ (R : VK) (B : Hp -> Prop), (fun σ4 H4 => Kp cσ σ4 /\ Acz σ4 H4 fun b H5 => if b = true then te σ4 H5 R else B H5) = (fun σ4 H4 => Kp cσ σ4 /\ te σ4 H4 R) := fun R B => by
      funext σ4 H4
      show (Kp cσ σ4 /\ if true = true then te σ4 H4 R else B H4) = _
      rw [if_pos rfl]
    rw [eq]
    exact q
end
section
variable {X : Cx} {K : PySem.W.Frag} {σ : St} {H : Hp} {Q : VK} {R : It -> Hp -> Prop}
theorem Fl {n : Nat} {fs : List (Nat × Str)} {wi : TI} {g : TG} {tt : TT} {te : TE} : Y7 n fs wi g tt te σ H Q = wi σ H (fun J H1 => ∀ p, H1 p = none -> cIn J (cpσ n fs σ) g tt te Q H1 p) := rfl
theorem Gd {ta : TA} : Afw ta σ H R = ta σ H (fun vs H1 => ∃ j : Int, vs = [.int j] /\ -(2 ^ 62) <= j /\ j < 2 ^ 62 /\ R (Itr 0 j.toNat) H1) := rfl
theorem Fi {ta : TA} : Akc ta σ H R = ta σ H (fun vs H1 => ∃ i j : Int, vs = [.int i, .int j] /\ (-(2 ^ 62) <= i /\ i < 2 ^ 62 /\ -(2 ^ 62) <= j /\ j < 2 ^ 62) /\ R (Itr i (j - i).toNat) H1) := rfl
theorem Dz {tl : TE} : Agx K tl σ H R = tl σ H (fun x H1 => ∃ a, x = .ref a /\ (∃ xs, SqL K H1 a xs) /\ R (Itl K a) H1) := rfl
theorem Fo {tl : TE} : Aje K tl σ H R = tl σ H (fun x H1 => ∃ a, x = .ref a /\ (∃ xs, SqT K H1 a xs) /\ R (Itt K a) H1) := rfl
theorem Lx {a : Addr} {p : Addr -> Prop} : (∃ b, V.ref a = .ref b /\ p b) = p a := propext ⟨fun ⟨_, e, h⟩ => by cases e; exact h, fun h => ⟨a, rfl, h⟩⟩
theorem Lf {v : Option V} {r : St} : Kp (none :: r) (v :: r) = True := by
  refine eq_true ⟨rfl, fun i u e => ?_⟩
  cases i with
  | zero => cases e
  | succ i => exact e
theorem Ln {v v' : Option V} {r : St} : Kp (none :: none :: r) (v :: v' :: r) = True := by
  refine eq_true ⟨rfl, fun i u e => ?_⟩
  cases i with
  | zero => cases e
  | succ i =>
    cases i with
    | zero => cases e
    | succ i => exact e
theorem Gx {k : Bool} {p : Int -> Prop} {q : Bool -> Prop} : ((∃ i, [V.bl k] = [V.int i] /\ p i) \/ ∃ k', [V.bl k] = [V.bl k'] /\ q k') = q k :=
  propext ⟨fun h => h.elim (fun ⟨_, e, _⟩ => by cases e) fun ⟨_, e, h⟩ => by cases e; exact h, fun h => .inr ⟨k, rfl, h⟩⟩
end
end L2
namespace L2
open PySem PySem.Spec PyProof.Rows
def FI (J : It) (g : TG) (tb : TS) (D : Ends) (σ : St) (H : Hp) : Prop := ∃ W : Nat -> Nat -> St -> Hp -> Prop, (∃ m, W 0 m σ H) /\ ∀ i m σ H, W i m σ H ->
  (J.stop i H /\ D.nx σ H) \/ (J.go i H /\ ∃ N : St -> Hp -> Prop, (∀ σ' H', N σ' H' -> ∃ m', m' < m /\ W (i + 1) m' σ' H') /\ ∀ x H', J.yld i H x H' -> g x σ H' fun σ2 H2 => tb { D with nx := N, ct := N, bk := D.nx } σ2 H2)
theorem Iz {wi : TI} {g : TG} {tb : TS} {D : Ends} {σ : St} {H : Hp} : Aj4 wi g tb D σ H = wi σ H (fun J H1 => FI J g tb D σ H1) := rfl
section
variable {K : PySem.W.Frag} {σ : St} {H : Hp} {g : TG} {tb : TS} {D : Ends} {α : Type} {es : List α} {inj : α -> V}
def Agw (J : It) (H : Hp) (es : List α) (inj : α -> V) : Prop := ∀ i, (es[i]? = none -> J.stop i H) /\ ∀ e, es[i]? = some e -> J.go i H /\ ∀ x H3, J.yld i H x H3 -> H3 = H /\ x = inj e
theorem Aaw {a : Addr} (h : SqL K H a (es.map inj)) : Agw (Itl K a) H es inj := fun i => Uh h i H (Same.refl _)
theorem Adm {a : Addr} (h : SqT K H a (es.map inj)) : Agw (Itt K a) H es inj := fun i => Sq h i H (Same.refl _)
theorem Zf {lo : Int} {n : Nat} : Agw (Itr lo n) H (List.range n) (fun i => .int (lo + (i : Nat))) := fun i => Xz i H (Same.refl _)
theorem Ado {J : It} (Pv : List α -> St -> Hp -> Prop) (h0 : Pv [] σ H) (hw : ∀ pre σ H, Pv pre σ H -> Agw J H es inj)
    (hs : ∀ pre e post σ H, es = pre ++ e :: post -> Pv pre σ H -> g (inj e) σ H fun σ2 H2 => tb { D with nx := Pv (pre ++ [e]), ct := Pv (pre ++ [e]), bk := D.nx } σ2 H2) (hd : ∀ σ H, Pv es σ H -> D.nx σ H) : FI J g tb D σ H := by
  refine ⟨fun i m σ H => m = es.length - i /\ i <= es.length /\ Pv (es.take i) σ H, ⟨es.length, by simp, Nat.zero_le _, h0⟩, ?_⟩
  rintro i m σ H ⟨rfl, hi, p⟩
  have w := hw _ _ _ p i
  cases he : es[i]? with
  | none =>
    have e : i = es.length := Nat.le_antisymm hi (List.getElem?_eq_none_iff.mp he)
    subst e
    rw [List.take_length] at p
    exact .inl ⟨w.1 he, hd _ _ p⟩
  | some e =>
    obtain ⟨hlt, ee⟩ := List.getElem?_eq_some_iff.mp he
    have tk : es.take (i + 1) = es.take i ++ [e] := by rw [List.take_succ, he]; rfl
    have sp : es = es.take i ++ e :: es.drop (i + 1) := by
      rw [<- ee, <- List.drop_eq_getElem_cons hlt, List.take_append_drop]
    refine .inr ⟨(w.2 e he).1, Pv (es.take i ++ [e]), fun σ' H' q => ⟨es.length - (i + 1), by omega, rfl, hlt, by rw [tk]; exact q⟩, fun x H' y => ?_⟩
    obtain ⟨rfl, rfl⟩ := (w.2 e he).2 x H' y
    exact hs _ e _ σ H' sp p
end
end L2
namespace L2
open PySem PySem.Spec PyProof.Rows
section
variable {K : PySem.W.Frag} {σ : St} {H : Hp} {Q : VK}
theorem Vx {r : V -> Option Int -> Option Int -> Hp -> VK -> Prop} {te : TE} {tl th : TO} : tSl r te tl th σ H Q = te σ H (fun x H1 => tl σ H1 fun l H2 => th σ H2 fun u H3 => r x l u H3 Q) := rfl
theorem Cz {R : Option Int -> Hp -> Prop} : V6 σ H R = R none H := rfl
theorem Gh {t : TE} {R : Option Int -> Hp -> Prop} : Agy t σ H R = t σ H (fun x H1 => ∃ i, x = .int i /\ R (some i) H1) := rfl
theorem K9 {T : String} {r : V -> List V -> Hp -> VK -> Prop} {to : TE} : Ak4 K T r to σ H Q = to σ H (fun x H1 => tyV K T x H1 /\ r x [] H1 Q) := rfl
theorem V2 {T : String} {r : V -> List V -> Hp -> VK -> Prop} {to : TE} {t : TA} : tBM K T r to t σ H Q = to σ H (fun x H1 => tyV K T x H1 /\ t σ H1 fun xs H2 => r x xs H2 Q) := rfl
end
section
variable {CX : CXT} {P : Program} {w : World} {K : PySem.W.Frag} {mg : Str -> Option Value} {base : Heap} {N : List Str} {qual : Str} {scope : Scope} {f : Addr} {cd : Value} {A : Around} {outer : List Env} {s : Shared} {H H1 H2 : Hp} {E : XK} {Q : VK} {a b : Addr} {ns ms : List Int} {g : Bool -> Bool}
theorem Ks : (Rq CX P w K mg base N qual scope f cd A outer s H E).K = K := rfl
theorem Gs : (Rq CX P w K mg base N qual scope f cd A outer s H E).nox.K = K := rfl
theorem O1 (ns : List Int) : SeqAt.shaped (.list (ns.map PyData.int)) = true := by
  simp [SeqAt.shaped, PyData.canLay0, PyData.depth, PySem.W.ke_canLayAll0, PySem.W.ke_depthAll]
theorem Adb (ha : SqL K H a (ns.map V.int)) (hb : SqL K H b (ms.map V.int)) (h : Q (.bl (g (decide (ns = ms)))) H) : Aiz K g (.ref a) (.ref b) H Q :=
  ⟨_, _, .lints ha, .lints hb, O1 _, O1 _, by rw [PyData.eqv, M9]; exact h⟩
end
end L2
namespace L2
open PySem PySem.Spec PyProof.Rows
section
variable {c : TT} {tb : TS} {D : Ends} {σ : St} {H : Hp}
def WB (Pv : St -> Hp -> Prop) (μ : St -> Hp -> Nat) (tb : TS) (D : Ends) (n : Nat) (σ : St) (H : Hp) : Prop :=
  ∃ N : St -> Hp -> Prop, (∀ σ' H', N σ' H' -> ∃ m', m' < n /\ (m' = μ σ' H' /\ Pv σ' H')) /\ tb { D with nx := N, ct := N, bk := D.nx } σ H
theorem Af6 {Pv : St -> Hp -> Prop} {μ : St -> Hp -> Nat} {n : Nat} (h : tb { D with nx := fun σ' H' => Pv σ' H' /\ μ σ' H' < n, ct := fun σ' H' => Pv σ' H' /\ μ σ' H' < n, bk := D.nx } σ H) : WB Pv μ tb D n σ H :=
  ⟨_, fun _ _ ⟨p, l⟩ => ⟨_, l, rfl, p⟩, h⟩
theorem Pn (Pv : St -> Hp -> Prop) (μ : St -> Hp -> Nat) (h0 : Pv σ H) (hs : ∀ σ H, Pv σ H -> c σ H fun b H1 => if b = true then WB Pv μ tb D (μ σ H) σ H1 else D.nx σ H1) : Uz c tb D σ H := by
  refine ⟨fun m σ H => m = μ σ H /\ Pv σ H, ⟨_, rfl, h0⟩, ?_⟩
  rintro m σ H ⟨rfl, p⟩
  exact hs σ H p
end
theorem Fq {a : Addr} {p : Addr -> Prop} : (∃ b, [V.ref a] = [.ref b] /\ p b) = p a := propext ⟨fun ⟨_, e, h⟩ => by cases e; exact h, fun h => ⟨a, rfl, h⟩⟩
section
variable {K : PySem.W.Frag} {σ : St} {H : Hp} {Q : St -> Hp -> Prop} {R : VK} {p a b : Addr} {v w : V} {i j : Nat} {xs : List V} {ns ms : List Int} {f : Bool -> Bool}
theorem Ir (h : SqT K H p [v, w]) (q : Q ((σ.set i (some v)).set j (some w)) H) : Ajr K 2 (Ac1 (Wx i) (Ac1 (Wx j) Ajl)) (.ref p) σ H Q := ⟨p, _, rfl, h, rfl, v, _, rfl, w, _, rfl, rfl, q⟩
theorem Gf {to ti : TE} {t : Ait} : Ai4 to ti t v σ H Q = to σ H (fun o H1 => ti σ H1 fun i H2 => t o i v H2 fun H3 => Q σ H3) := rfl
theorem Wq {G : Hp -> Prop} (hp : H p = some (.lst xs)) (hj : j < xs.length) (q : G (upd H p (.lst (xs.set j v)))) : Ah0 (.ref p) (.int (j : Nat)) v H G := by
  refine ⟨p, xs, j, j, rfl, rfl, hp, ?_, q⟩
  unfold ixN
  rw [if_pos (by omega), if_pos (by omega), Int.toNat_natCast]
theorem Ox (h : SqL K H a xs) (e : xs[j]? = some v) (q : R v H) : Ajz K (.ref a) (.int (j : Nat)) H R := Ack h (Jz e) q
theorem Cv (ha : SqT K H a (ns.map V.int)) (hb : SqT K H b (ms.map V.int)) (h : R (.bl (f (decide (ns = ms)))) H) : Ajm K f (.ref a) (.ref b) H R := ⟨a, b, ns, ms, rfl, rfl, ha, hb, h⟩
theorem Jh (ns : List Int) (j : Nat) (x : Int) : (ns.map V.int).set j (.int x) = (ns.set j x).map V.int := by rw [List.map_set]
theorem G9 {ns : List Int} {j : Nat} (h : j < ns.length) : (ns.map V.int)[j]? = some (.int ns[j]) := by rw [List.getElem?_map, List.getElem?_eq_getElem h]; rfl
theorem Nr (k : Nat) : (List.replicate k [V.int 0]).flatten = (List.replicate k (0 : Int)).map V.int := by
  induction k with
  | zero => rfl
  | succ k ih => rw [List.replicate_succ, List.flatten_cons, ih, List.replicate_succ, List.map_cons]; rfl
end
end L2
namespace L2
open PySem PySem.Spec PyProof.Rows
section
variable {prog : Program} {w : World} {A : Around} {E : Value -> Shared -> Prop} {s : Shared} {j u : Addr} {i : Nat} {xs : Array Value}
theorem nextT {y : Value} {Q : Value -> Shared -> Prop} (hj : s.heap.IsTupleIter j u i) (hu : s.heap.IsTuple u xs) (hy : xs[i]? = some y)
    (k : ∀ g, g.IsTupleIter j u (i + 1) -> Heap.SameBut j s.heap g -> Q y { s with heap := g }) : wpAny (model prog w) A (Builtin.SmallTypes.nextOf (.ref j)) Q E s := by
  obtain ⟨oj, ej, cj, dj⟩ := id hj
  obtain ⟨ou, eu, _, nu, du⟩ := hu
  unfold Builtin.SmallTypes.nextOf
  refine wpAny_bind (wpAny_callSpecial?_slot (name := Str.ofString "__next__") hj.typeIs F.slot_tuple_iterator_next (wpAny_call_entry F.slot_tuple_iterator_next hj.typeIs F.entry_tuple_iterator_next ?_ (F.args_tuple_iterator_next_1 _)))
  show wpAny _ _ (field (.ref j) 0 >>= _) _ _ s
  refine wpAny_bind (wpAny_field ej dj (x := .ref u) rfl ?_)
  show wpAny _ _ (if (Value.ref u == Value.none) = true then _ else _) _ _ s
  rw [if_neg (show ¬ ((Value.ref u == Value.none) = true) from Bool.false_ne_true)]
  show wpAny _ _ (field (.ref j) 1 >>= _) _ _ s
  refine wpAny_bind (wpAny_field ej dj (x := .int i 0) rfl ?_)
  show wpAny _ _ (seqItems? (.ref u) >>= _) _ _ s
  refine wpAny_bind (wpAny_seqItems eu du ?_)
  simp only [hy, Int.toNat_natCast]
  refine wpAny_bind (wpAny_setField ej dj (by simp) (wpAny_pure ⟨y, rfl, wpAny_pure (k _ ?_ (Heap.SameBut.update ..))⟩))
  exact ⟨_, Heap.get?_update_self _ ej (Obj.isFreed_of_fields (Obj.data_mapFields dj _)), (Obj.cls_mapFields ..).trans cj, by rw [Obj.data_mapFields dj]; simp [rawInt]⟩
theorem Vp {Q : Value -> Shared -> Prop} (hh : A.handled = none) (hj : s.heap.IsTupleIter j u i) (hu : s.heap.IsTuple u xs) (hy : xs[i]? = none)
    (k : ∀ g e, Heap.ExtBut j s.heap g -> (∃ o, g.get? e = some o /\ o.cls = .type "StopIteration") -> E (.ref e) { s with heap := g }) : wpAny (model prog w) A (Builtin.SmallTypes.nextOf (.ref j)) Q E s := by
  obtain ⟨oj, ej, cj, dj⟩ := id hj
  obtain ⟨ou, eu, _, nu, du⟩ := hu
  unfold Builtin.SmallTypes.nextOf
  refine wpAny_bind (wpAny_callSpecial?_slot (name := Str.ofString "__next__") hj.typeIs F.slot_tuple_iterator_next (wpAny_call_entry F.slot_tuple_iterator_next hj.typeIs F.entry_tuple_iterator_next ?_ (F.args_tuple_iterator_next_1 _)))
  show wpAny _ _ (field (.ref j) 0 >>= _) _ _ s
  refine wpAny_bind (wpAny_field ej dj (x := .ref u) rfl ?_)
  show wpAny _ _ (if (Value.ref u == Value.none) = true then _ else _) _ _ s
  rw [if_neg (show ¬ ((Value.ref u == Value.none) = true) from Bool.false_ne_true)]
  show wpAny _ _ (field (.ref j) 1 >>= _) _ _ s
  refine wpAny_bind (wpAny_field ej dj (x := .int i 0) rfl ?_)
  show wpAny _ _ (seqItems? (.ref u) >>= _) _ _ s
  refine wpAny_bind (wpAny_seqItems eu du ?_)
  simp only [hy, Int.toNat_natCast]
  refine wpAny_bind (wpAny_rule (wpAny_bind (wpAny_setField ej dj (by simp) ?_)))
  show wpAny _ A.in1 (newExc (.type "StopIteration") [] >>= _) _ _ _
  refine wpAny_bind ?_
  simp only [newTuple, newExc]
  refine wpAny_bind (wpAny_newObj_type ?_ (by size_fits))
  refine wpAny_bind (m := firstArgMember _ _) (wpAny_of_eq (a := Value.none) (by first | rfl | (simp only [firstArgMember] ; rfl)) ?_)
  refine (wpAny_newObj_type ?_ (by size_fits))
  simp only [raiseNew]
  refine wpAny_bind (wpAny_handled ?_)
  first | rw [show A.in1.handled = none from hh] | (rw [hh])
  refine wpAny_bind (wpAny_pure (wpAny_throw ?_))
  exact k _ _ (((Heap.SameBut.update ..).extBut.push _).push _) ⟨_, Heap.get?_push_size _ rfl, rfl⟩
theorem Acy {e : Addr} {y old : Value} {Q : Value -> Shared -> Prop} (he : IsEnum s.heap e j i old) (hj : s.heap.IsTupleIter j u i) (hu : s.heap.IsTuple u xs) (hy : xs[i]? = some y) (ne : e ≠ j)
    (k : ∀ g, IsEnumOut g e j ((i : Int) + 1) y s.heap.objs.size -> g.IsTupleIter j u (i + 1) -> g.get? s.heap.objs.size = some { cls := .type "tuple", data := .seq #[.int i s.toks, y] } -> g.objs.size = s.heap.objs.size + 1 ->
      (∀ b o, b ≠ e -> b ≠ j -> s.heap.get? b = some o -> g.get? b = some o) -> Q (.ref s.heap.objs.size) { s with heap := g, toks := s.toks + 1 }) :
    wpAny (model prog w) A (Builtin.«enumerate.__next__» ⟨[.ref e], []⟩) (fun fin s' => ∃ v, fin = .done (.ret v) /\ Q v s') E s := by
  obtain ⟨hp, gg, d, tk, os⟩ := s
  show wpAny _ _ (field (.ref e) 2 >>= _) _ _ _
  refine wpAny_bind (wpAny_field he rfl (x := .ref j) rfl ?_)
  refine wpAny_bind (nextT hj hu hy fun g₁ hj₁ sb₁ => ?_)
  replace sb₁ : Heap.SameBut j hp g₁ := sb₁
  have e₁ : IsEnum g₁ e j i old := (sb₁.2 e ne).trans he
  show wpAny _ _ (field (.ref e) 3 >>= _) _ _ ⟨g₁, gg, d, tk, os⟩
  refine wpAny_bind (wpAny_field e₁ rfl (x := rawInt i) rfl ?_)
  show wpAny _ _ (field (.ref e) 4 >>= _) _ _ ⟨g₁, gg, d, tk, os⟩
  refine wpAny_bind (wpAny_field e₁ rfl (x := .none) rfl ?_)
  show wpAny _ _ (mkInt i >>= _) _ _ ⟨g₁, gg, d, tk, os⟩
  refine wpAny_bind (wpAny_mkInt ?_)
  show wpAny _ _ (setField (.ref e) 3 (rawInt ((i : Int) + 1)) >>= _) _ _ ⟨g₁, gg, d, tk + 1, os⟩
  refine wpAny_bind (wpAny_setField_rec e₁ (by simp) fun g₂ e₂ sb₂ => ?_)
  replace sb₂ : Heap.SameBut e g₁ g₂ := sb₂
  replace e₂ : IsEnum g₂ e j ((i : Int) + 1) old := e₂
  show wpAny _ _ (setField (.ref e) 4 .none >>= _) _ _ ⟨g₂, gg, d, tk + 1, os⟩
  refine wpAny_bind (wpAny_setField_rec e₂ (by simp) fun g₃ e₃ sb₃ => ?_)
  replace sb₃ : Heap.SameBut e g₂ g₃ := sb₃
  replace e₃ : IsEnum g₃ e j ((i : Int) + 1) old := e₃
  show wpAny _ _ (newTuple [.int i tk, y] >>= _) _ _ ⟨g₃, gg, d, tk + 1, os⟩
  refine wpAny_bind (wpAny_newTuple ?_)
  have e₄ : IsEnum (g₃.push { cls := .type "tuple", data := .seq #[.int i tk, y] }) e j ((i : Int) + 1) old := Heap.get?_push_of_some _ e₃
  generalize hg : g₃.push { cls := .type "tuple", data := .seq #[.int i tk, y] } = g₄ at e₄
  have sz : g₃.objs.size = hp.objs.size := by rw [sb₃.1, sb₂.1, sb₁.1]
  have lt : e < hp.objs.size := Heap.lt_size he
  have t₄ : g₄.get? hp.objs.size = some { cls := .type "tuple", data := .seq #[.int i tk, y] } := by rw [<- hg, <- sz]; exact Heap.get?_push_size _ rfl
  have z₄ : g₄.objs.size = hp.objs.size + 1 := by rw [<- hg, Heap.size_push, sz]
  have k₄ : ∀ b o, b ≠ e -> b ≠ j -> hp.get? b = some o -> g₄.get? b = some o := fun b o h1 h2 hb => by
    rw [<- hg]; exact Heap.get?_push_of_some _ (sb₃.extBut b o h1 (sb₂.extBut b o h1 (sb₁.extBut b o h2 hb)))
  have j₄ : g₄.IsTupleIter j u (i + 1) := by
    rw [<- hg]; obtain ⟨o, ho, r⟩ := (hj₁.extBut sb₂.extBut (Ne.symm ne)).extBut sb₃.extBut (Ne.symm ne); exact ⟨o, Heap.get?_push_of_some _ ho, r⟩
  show wpAny _ _ (Builtin.SmallTypes.ownedTupleIsFree (.ref e) >>= _) _ _ ⟨g₄, gg, d, tk + 1, os⟩
  rw [sz]
  clear hg e₃ sb₃ e₂ sb₂ e₁ sb₁ hj₁ sz g₃ g₂ g₁
  refine wpAny_bind ?_
  . unfold Builtin.SmallTypes.ownedTupleIsFree
    refine wpAny_bind (wpAny_field e₄ rfl (x := .none) rfl (wpAny_pure ?_))
    simp only [if_true]
    refine wpAny_bind (wpAny_rule ?_)
    refine wpAny_bind (wpAny_field e₄ rfl (x := old) rfl ?_)
    refine wpAny_bind (wpAny_setField_rec e₄ (by simp) fun g₅ e₅ sb₅ => ?_)
    replace sb₅ : Heap.SameBut e g₄ g₅ := sb₅
    replace e₅ : IsEnum g₅ e j ((i : Int) + 1) y := e₅
    show wpAny _ _ (Builtin.SmallTypes.ownedTupleHandOut (.ref e) (.ref hp.objs.size) >>= _) _ _ ⟨g₅, gg, d, tk + 1, os⟩
    refine wpAny_bind ?_
    . unfold Builtin.SmallTypes.ownedTupleHandOut
      refine wpAny_bind (wpAny_setField_rec e₅ (by simp) fun g₆ e₆ sb₆ => ?_)
      replace sb₆ : Heap.SameBut e g₅ g₆ := sb₆
      replace e₆ : IsEnumOut g₆ e j ((i : Int) + 1) y hp.objs.size := e₆
      refine wpAny_setField_rec e₆ (by simp) fun g₇ e₇ sb₇ => ?_
      replace sb₇ : Heap.SameBut e g₆ g₇ := sb₇
      replace e₇ : IsEnumOut g₇ e j ((i : Int) + 1) y hp.objs.size := e₇
      refine wpAny_bind (wpAny_letGo (wpAny_pure ⟨_, rfl, k g₇ e₇ ?_ ?_ ?_ ?_⟩))
      . exact ((j₄.extBut sb₅.extBut (Ne.symm ne)).extBut sb₆.extBut (Ne.symm ne)).extBut sb₇.extBut (Ne.symm ne)
      . exact sb₇.extBut _ _ (Nat.ne_of_gt lt) (sb₆.extBut _ _ (Nat.ne_of_gt lt) (sb₅.extBut _ _ (Nat.ne_of_gt lt) t₄))
      . rw [sb₇.1, sb₆.1, sb₅.1, z₄]
      . exact fun b o h1 h2 hb => sb₇.extBut b o h1 (sb₆.extBut b o h1 (sb₅.extBut b o h1 (k₄ b o h1 h2 hb)))
theorem Ade {e : Addr} {y old : Value} {Q : Option Value -> Shared -> Prop} (he : IsEnum s.heap e j i old) (hj : s.heap.IsTupleIter j u i) (hu : s.heap.IsTuple u xs) (hy : xs[i]? = some y) (ne : e ≠ j)
    (k : ∀ g, IsEnumOut g e j ((i : Int) + 1) y s.heap.objs.size -> g.IsTupleIter j u (i + 1) -> g.get? s.heap.objs.size = some { cls := .type "tuple", data := .seq #[.int i s.toks, y] } -> g.objs.size = s.heap.objs.size + 1 ->
      (∀ b o, b ≠ e -> b ≠ j -> s.heap.get? b = some o -> g.get? b = some o) -> Q (some (.ref s.heap.objs.size)) { s with heap := g, toks := s.toks + 1 }) : wpAny (model prog w) A (pyNext (.ref e)) Q E s := by
  have ty : s.TypeIs (.ref e) "enumerate" := ⟨_, he, rfl⟩
  unfold pyNext
  exact wpAny_bind (wpAny_attempt (wpAny_callSpecial?_slot (name := Str.ofString "__next__") ty F.slot_enumerate_next (wpAny_call_entry F.slot_enumerate_next ty F.entry_enumerate_next
    (Acy he hj hu hy ne fun g a b c d f => wpAny_pure (k g a b c d f)) (F.args_enumerate_next_1 _))))
theorem Acm {e : Addr} {old : Value} {Q : Option Value -> Shared -> Prop} (hh : A.handled = none) (he : IsEnum s.heap e j i old) (hj : s.heap.IsTupleIter j u i) (hu : s.heap.IsTuple u xs) (hy : xs[i]? = none)
    (k : ∀ g, Heap.ExtBut j s.heap g -> Q none { s with heap := g }) : wpAny (model prog w) A (pyNext (.ref e)) Q E s := by
  have ty : s.TypeIs (.ref e) "enumerate" := ⟨_, he, rfl⟩
  unfold pyNext
  refine wpAny_bind (wpAny_attempt (wpAny_callSpecial?_slot (name := Str.ofString "__next__") ty F.slot_enumerate_next (wpAny_call_entry F.slot_enumerate_next ty F.entry_enumerate_next ?_ (F.args_enumerate_next_1 _))))
  show wpAny _ _ (field (.ref e) 2 >>= _) _ _ _
  refine wpAny_bind (wpAny_field he rfl (x := .ref j) rfl ?_)
  refine wpAny_bind (Vp hh hj hu hy fun g x hg ⟨o, ho, hc⟩ => ?_)
  refine wpAny_bind (wpAny_isInstance (T := "StopIteration") (b := true) ⟨o, ho, hc⟩ isSubtype_stop ?_)
  exact wpAny_pure (k _ hg)
end
open AutoSeq1 (wpAny_loadPart') in
theorem Abf (u : Addr) (xs : Array Value) (o : Obj) (n : Nat) (hc : o.cls = .type "tuple") (hd : o.data = .seq xs n) :
    Meets (Builtin.«enumerate.__new__» ⟨[.type "enumerate", .ref u], []⟩) (fun _ R s => s.heap.get? u = some o /\ R (.ok (.ret (.ref (s.heap.push { cls := .type "tuple_iterator", data := .fields #[.ref u, .int 0 0] }).objs.size)))
        { s with heap := (s.heap.push { cls := .type "tuple_iterator", data := .fields #[.ref u, .int 0 0] }).push { cls := .type "enumerate", data := .fields #[.none, .bool false, .ref s.heap.objs.size, rawInt 0, .none, .none] } }) :=
  .of_wp fun prog w A R s h => by
    obtain ⟨hp, g, d, tk, os⟩ := s; obtain ⟨hu, h⟩ := h
    obtain ⟨oc, od, odat, osl⟩ := o
    obtain rfl : oc = .type "tuple" := hc
    obtain rfl : odat = .seq xs n := hd
    have su := sub_enumerate
    have hT : Heap.IsTuple (Shared.heap ⟨hp, g, d, tk, os⟩) u xs := ⟨_, hu, rfl, n, rfl⟩
    wp_walk using wpAny_loadPart' hu
    refine wpAny_stack_any fun st => wpAny_pure ?_
    split
    . rename_i c _ _ _ _ _
      cases (c == Value.type "enumerate")
      . wp_walk using wpAny_loadPart' hu, wpAny_pyIter_tuple hT
        exact ⟨_, rfl, h⟩
      . wp_walk using wpAny_loadPart' hu, wpAny_pyIter_tuple hT
        exact ⟨_, rfl, h⟩
    . wp_walk using wpAny_loadPart' hu, wpAny_pyIter_tuple hT
      exact ⟨_, rfl, h⟩
section
variable {X : Cx} {pins : List (Addr × Obj)} {σ : St} {H : Hp} {s : Shared} {h' : Heap}
theorem Inv.turnL {t' : Nat} {fp : List Addr} (I : Inv X pins σ H s) (k : ∀ b o, b ∉ fp -> s.heap.get? b = some o -> h'.get? b = some o) (hf : ∀ b ∈ fp, Vt X pins H b) : Inv X pins σ H { s with heap := h', toks := t' } := by
  have nf : ∀ b u, H b = some u -> b ∉ fp := fun b u e z => by
    have := (hf b z).1
    rw [this] at e
    cases e
  refine I.step (g' := s.gens) (d' := s.drawn) (ch := fp) (fun b hb => ⟨(hf b hb).2.2.2.1, (hf b hb).2.1, (hf b hb).2.2.2.2.1, (hf b hb).2.2.2.2.2⟩) (fun b o _ _ hc e _ => k b o hc e) (fun b o _ _ hc e _ => ⟨o.slots, k b o hc e⟩) (fun _ _ _ _ n => n)
    (fun b o hc e => ⟨o, k b o hc e⟩) (fun _ _ e => e) (fun _ _ _ e => e) (fun b ps e => ⟨#[], by rw [e]; simp⟩) (fun m hm => ?_) (fun b u e => ?_) I.bare
  . obtain ⟨o, es, ep, ho, r⟩ := hm
    exact ⟨o, es, ep, k _ o (fun z => (hf _ z).2.1 rfl) ho, r⟩
  . refine (I.hok b u e).stay (fun c v hc q => k c v ?_ q) (fun _ q => q) fun _ _ q => q
    rcases hc with z | z
    . rw [z]
      exact nf b u e
    . exact nf c _ z
end
def Ite (K : PySem.W.Frag) (a : Addr) : It :=
  ⟨fun i H => ∃ xs x, SqT K H a xs /\ xs[i]? = some x, fun i H x H' => ∃ p v, (∀ xs, SqT K H a xs -> xs[i]? = some v) /\ H p = none /\ x = .ref p /\ H' = upd H p (.tup [.int (i : Nat), v]), fun i H => ∃ xs, SqT K H a xs /\ xs.length <= i⟩
theorem Af4 {P : Program} {w : World} {K : PySem.W.Frag} {el : List Expr} {x1} {tp : Pos} (a e j : Addr) (ne : e ≠ j) : Turn P w K (.Tuple el x1 tp) (Ite K a) [e, j] e (fun i h => (∃ old, IsEnum h e j i old) /\ h.IsTupleIter j a i) where
  mem := by simp
  obj := fun i h st b hb => by
    obtain ⟨⟨old, he⟩, oj, ej, cj, dj⟩ := st
    rcases List.mem_cons.mp hb with rfl | hb
    . exact ⟨_, he, fun v z => by cases (show Data.fields _ = Data.cell v from z)⟩
    . have z : b = j := by simpa using hb
      subst z
      exact ⟨oj, ej, fun v z => by rw [dj] at z; cases z⟩
  keep := fun i h h' st k => by
    obtain ⟨⟨old, he⟩, oj, ej, r⟩ := st
    exact ⟨⟨old, k e (by simp) _ he⟩, oj, k j (by simp) _ ej, r⟩
  item := by
    intro X hP hw hK hc i pins s σ H E I hf st hg
    subst hP hw hK
    obtain ⟨xs, x, hq, hx⟩ := hg
    obtain ⟨its, rv, p, hz⟩ := I.tuple hq
    obtain ⟨u, hu, ru⟩ := rv.get hx
    obtain ⟨⟨old, he⟩, hj⟩ := st
    refine Ade he hj (show s.heap.IsTuple a its.toArray from p) (y := u) (by simpa using hu) ne fun g hout hj' hT hsz kk => ⟨_, rfl, ?_⟩
    refine wpAny_letOwnedTupleGo_enum hout fun g2 he2 sb2 => ?_
    replace sb2 : Heap.SameBut e g g2 := sb2
    have lte : e < s.heap.objs.size := Heap.lt_size he
    have ltj : j < s.heap.objs.size := by
      obtain ⟨_, ej, _⟩ := hj
      exact Heap.lt_size ej
    have hn : H s.heap.objs.size = none := I.fresh
    have I1 : Inv X pins σ (upd H s.heap.objs.size (.tup [.int (i : Nat), x])) { s with heap := s.heap.push { cls := .type "tuple", data := .seq #[.int i s.toks, u] }, toks := s.toks + 1 } :=
      I.laid (fun b o q => Heap.get?_push_of_some _ q) (Nat.le_refl _) ⟨by show 2 <= sizeLine; decide, [.int i s.toks, u], .cons ⟨_, rfl⟩ (.cons ru .nil), ⟨_, Heap.get?_push_size _ rfl, rfl, _, rfl⟩⟩
    have fp' : ∀ b ∈ [e, j], Vt X pins (upd H s.heap.objs.size (.tup [.int (i : Nat), x])) b := fun b hb => by
      have nb : b ≠ s.heap.objs.size := by
        rcases List.mem_cons.mp hb with rfl | hb'
        . exact Nat.ne_of_lt lte
        . have z : b = j := by simpa using hb'
          subst z
          exact Nat.ne_of_lt ltj
      exact ⟨by rw [Cm nb]; exact (hf b hb).1, (hf b hb).2⟩
    have I2 := I1.turnL (h' := g2) (t' := s.toks + 1) (fp := [e, j]) (fun b o hb q => by
      have n1 : b ≠ e := fun z => hb (by simp [z])
      have n2 : b ≠ j := fun z => hb (by simp [z])
      refine (sb2.2 b n1).trans ?_
      rcases Heap.get?_push_cases q with ⟨rfl, rfl⟩ | q0
      . exact hT
      . exact kk b o n1 n2 q0) fp'
    refine ⟨.ref s.heap.objs.size, _, I2, rfl, ⟨_, x, fun ys hy => by rw [I.tuple_inj hy hq]; exact hx, hn, rfl, rfl⟩, ⟨⟨_, by simpa using he2⟩, ?_⟩, fun b hb => (fp' b hb).1⟩
    exact hj'.extBut sb2.extBut (Ne.symm ne)
  done := by
    intro X hP hw hK hc i pins s σ H E I hf st hg
    subst hP hw hK
    obtain ⟨xs, hq, hx⟩ := hg
    obtain ⟨its, rv, p, hz⟩ := I.tuple hq
    obtain ⟨⟨old, he⟩, hj⟩ := st
    have hl := rv.length
    exact Acm (I.ok.hd hc) he hj (show s.heap.IsTuple a its.toArray from p) (by simp; omega) fun g eb => ⟨rfl, I.turnL (t' := s.toks) (fp := [e, j]) (fun b o hb q => eb b o (fun z => hb (by simp [z])) q) hf⟩
  self := fun _ _ _ _ _ st h => by
    obtain ⟨⟨old, he⟩, _⟩ := st
    exact wpAny_pyIter_enum he h
section
variable {X : Cx} {a : Expr} {ta : TA} {el : List Expr} {x1} {tp p pos : Pos}
def iEn (K : PySem.W.Frag) (ta : TA) : TI := fun σ H R => ta σ H fun vs H1 => ∃ a, vs = [.ref a] /\ (∃ xs, SqT K H1 a xs) /\ R (Ite K a) H1
theorem Ti (hg : Gl X "enumerate") (hm : X.mg "enumerate" = none) (ha : PA X [a] ta) (hs : starEach [a] X.env = [(false, eval a X.env)] := by rfl) : PI X (.Tuple el x1 tp) (.Call (.Name "enumerate" p) [a] [] pos) (iEn X.K ta) := by
  intro pins s σ H R I h
  refine Call_ (Ow I hg hm boot_enumerate (PyProof.Rows.callWith_type1 (thn (ha pos pins s σ H _ I h) fun us s1 ⟨vs, H1, I1, r1, q1⟩ => ?_) hs rfl))
  obtain ⟨b, rfl, ⟨xs, hq⟩, q⟩ := q1
  obtain ⟨v, rfl, rv⟩ := vals1 r1
  cases rv
  obtain ⟨its, rr, pl, hz⟩ := I1.tuple hq
  obtain ⟨o, ho, hc, n, hd⟩ := (show s1.heap.IsTuple b its.toArray from pl)
  refine callType_new F.called_enumerate (by decide) (F.typeCall_enumerate_1 _) (F.newCall_enumerate_1 _) (fun obj => F.args_object_init_2 obj _) F.entry_enumerate_new (Abf b its.toArray o n hc hd) ⟨ho, ?_⟩
  have z1 : (s1.heap.push { cls := .type "tuple_iterator", data := .fields #[.ref b, .int 0 0] }).objs.size = s1.heap.objs.size + 1 := Heap.size_push ..
  show _ /\ _
  rw [z1]
  have he : IsEnum ((s1.heap.push { cls := .type "tuple_iterator", data := .fields #[.ref b, .int 0 0] }).push { cls := .type "enumerate", data := .fields #[.none, .bool false, .ref s1.heap.objs.size, rawInt 0, .none, .none] }) (s1.heap.objs.size + 1) s1.heap.objs.size ((0 : Nat) : Int) .none := by
    have z2 := Heap.get?_push_size (s1.heap.push { cls := .type "tuple_iterator", data := .fields #[.ref b, .int 0 0] }) (o := { cls := .type "enumerate", data := .fields #[.none, .bool false, .ref s1.heap.objs.size, rawInt 0, .none, .none] }) rfl
    rw [z1] at z2
    exact z2
  have hj : Heap.IsTupleIter ((s1.heap.push { cls := .type "tuple_iterator", data := .fields #[.ref b, .int 0 0] }).push { cls := .type "enumerate", data := .fields #[.none, .bool false, .ref s1.heap.objs.size, rawInt 0, .none, .none] }) s1.heap.objs.size b 0 :=
    ⟨_, Heap.get?_push_of_some _ (Heap.get?_push_size _ rfl), rfl, rfl⟩
  have I2 : Inv X pins σ H1 { s1 with heap := (s1.heap.push { cls := .type "tuple_iterator", data := .fields #[.ref b, .int 0 0] }).push { cls := .type "enumerate", data := .fields #[.none, .bool false, .ref s1.heap.objs.size, rawInt 0, .none, .none] } } :=
    I1.kept (t' := s1.toks) fun c o' e => Heap.get?_push_of_some _ (Heap.get?_push_of_some _ e)
  refine ⟨⟨_, he, rfl⟩, wpAny_pyIter_enum he ⟨s1.heap.objs.size + 1, [s1.heap.objs.size + 1, s1.heap.objs.size], _, _, H1, rfl, I2, Af4 b _ _ (Nat.ne_of_gt (Nat.lt_succ_self _)), ⟨⟨_, he⟩, hj⟩, fun c hcm => ?_, q⟩⟩
  have hge : s1.heap.objs.size <= c := by
    rcases List.mem_cons.mp hcm with rfl | hcm
    . exact Nat.le_succ _
    . have z : c = s1.heap.objs.size := by simpa using hcm
      exact Nat.le_of_eq z.symm
  exact I1.fpOk hge (I1.hok.fresh hge)
end
theorem Kv {K : PySem.W.Frag} {σ : St} {H : Hp} {ta : TA} {R : It -> Hp -> Prop} : iEn K ta σ H R = ta σ H (fun vs H1 => ∃ a, vs = [.ref a] /\ (∃ xs, SqT K H1 a xs) /\ R (Ite K a) H1) := rfl
theorem Yr {K : PySem.W.Frag} {σ : St} {H : Hp} {g : TG} {tb : TS} {D : Ends} {α : Type} {es : List α} {inj : α -> V} {a : Addr} (Pv : List α -> St -> Hp -> Prop) (h0 : Pv [] σ H) (hw : ∀ pre σ H, Pv pre σ H -> SqT K H a (es.map inj))
    (hs : ∀ pre e post σ H p, es = pre ++ e :: post -> Pv pre σ H -> H p = none -> g (.ref p) σ (upd H p (.tup [.int (pre.length : Nat), inj e])) fun σ2 H2 => tb { D with nx := Pv (pre ++ [e]), ct := Pv (pre ++ [e]), bk := D.nx } σ2 H2) (hd : ∀ σ H, Pv es σ H -> D.nx σ H) : FI (Ite K a) g tb D σ H := by
  refine ⟨fun i m σ H => m = es.length - i /\ i <= es.length /\ Pv (es.take i) σ H, ⟨es.length, by simp, Nat.zero_le _, h0⟩, ?_⟩
  rintro i m σ H ⟨rfl, hi, p⟩
  have w := hw _ _ _ p
  cases he : es[i]? with
  | none =>
    have e : i = es.length := Nat.le_antisymm hi (List.getElem?_eq_none_iff.mp he)
    subst e
    rw [List.take_length] at p
    exact .inl ⟨⟨_, w, by rw [List.length_map]; exact Nat.le_refl _⟩, hd _ _ p⟩
  | some e =>
    obtain ⟨hlt, ee⟩ := List.getElem?_eq_some_iff.mp he
    have tk : es.take (i + 1) = es.take i ++ [e] := by rw [List.take_succ, he]; rfl
    have sp : es = es.take i ++ e :: es.drop (i + 1) := by
      rw [<- ee, <- List.drop_eq_getElem_cons hlt, List.take_append_drop]
    refine .inr ⟨⟨_, inj e, w, by rw [List.getElem?_map, he]; rfl⟩, Pv (es.take i ++ [e]), fun σ' H' q => ⟨es.length - (i + 1), by omega, rfl, hlt, by rw [tk]; exact q⟩, fun x H' y => ?_⟩
    obtain ⟨b, v, y1, y2, rfl, rfl⟩ := y
    have y3 := y1 _ w
    rw [List.getElem?_map, he] at y3
    obtain rfl : inj e = v := Option.some.inj y3
    have hl : (es.take i).length = i := by rw [List.length_take]; omega
    have z := hs _ e _ σ H b sp p y2
    rw [hl] at z
    exact z
end L2
namespace L2
open PySem PySem.Spec PyProof.Rows
section
variable {X : Cx}
def Aj0 (K : PySem.W.Frag) : R2 := fun x y H Q => ∃ a b xs ys, x = .ref a /\ y = .ref b /\ SqT K H a xs /\ SqT K H b ys /\ xs.length + ys.length <= sizeLine /\ ∀ z H', Same H H' -> SqT K H' z (xs ++ ys) -> Q (.ref z) H'
theorem Rn : OpR X (binaryOp .Add) (Aj0 X.K) := by
  intro pins s σ H x y v u Q I rx ry h
  obtain ⟨a, b, xs, ys, rfl, rfl, ha, hb, hz, q⟩ := h
  by_cases hx : xs = []
  . subst hx
    cases rx
    cases ry
    obtain ⟨its, r1, p1, _⟩ := I.tuple ha
    obtain ⟨its2, r2, p2, _⟩ := I.tuple hb
    cases r1
    obtain ⟨⟨c1, d1, t1, l1⟩, ho, hc, n, hd⟩ := (show s.heap.IsTuple a ([] : List Value).toArray from p1)
    obtain ⟨⟨c2, d2, t2, l2⟩, ho2, hc2, n2, hd2⟩ := (show s.heap.IsTuple b its2.toArray from p2)
    simp only at hc hd hc2 hd2
    subst hc hd hc2 hd2
    exact concat_meets ⟨_, ho, rfl⟩ ⟨_, ho2, rfl⟩ noFill_tuple_add seq_tuple_add PySem.F.slot_tuple_add PySem.F.entry_tuple_add (PySem.F.args_tuple_add_2 _ _)
      (tuple_addW0 a b #[] its2.toArray n n2 d1 d2 l1 l2 rfl) ⟨ho, ho2, ⟨.ref b, H, I, rfl, q b H (Same.refl _) hb⟩⟩
  . exact Ago pins s σ H _ _ v u Q I rx ry ⟨a, b, xs, ys, rfl, rfl, ha, hb, hx, hz, fun e => q a H (Same.refl _) (by rw [e, List.append_nil]; exact ha), fun _ p hp => q p _ (Same.upd hp _) (.of Af)⟩
theorem Adt (hc : X.calm = true) : Ik X (.builtin "all") (fun xs H Q => ∃ (a : Addr) (bs : List Bool), xs = [.ref a] /\ SqL X.K H a (bs.map V.bl) /\ Q (.bl (bs.all id)) H) := by
  intro pins s σ H xs us Q I r h
  obtain ⟨a, bs, rfl, ha, q⟩ := h
  obtain ⟨u, rfl, ru⟩ := vals1 r
  cases ru
  obtain ⟨its, rv, p, hz⟩ := I.list ha
  have hl : s.heap.IsList a its.toArray := p.isList
  have lt : a < s.heap.objs.size := by
    obtain ⟨_, e, _⟩ := hl
    exact Heap.lt_size e
  have ln : its.length = bs.length := by
    have := rv.length
    rw [List.length_map] at this
    exact this.symm
  refine call_all_walk (wpAny_pyIter_list hl ?_)
  refine ⟨s.heap.objs.size, [s.heap.objs.size, a], [s.heap.objs.size], its.toArray.size, _, _, fun i => (bs[i]?).getD true, rfl, Walks.list (A := X.A.in1) (I.ok.hd hc) _ a (Nat.ne_of_lt lt) its.toArray,
    ⟨⟨_, Heap.get?_push_size _ rfl, rfl, rfl⟩, hl.push _⟩, fun i v s' Q' E' hP hQ => ?_, fun g tk hk => ?_⟩
  . have hv : its[i]? = some v := by simpa using hP
    have hi : i < its.length := (List.getElem?_eq_some_iff.mp hv).1
    have hb : bs[i]? = some bs[i] := List.getElem?_eq_getElem (by omega)
    obtain ⟨w', hw, rw'⟩ := rv.get (show (bs.map V.bl)[i]? = some (V.bl bs[i]) by rw [List.getElem?_map, hb]; rfl)
    rw [hv] at hw
    cases hw
    cases rw'
    simp only [hb, Option.getD_some] at hQ
    exact wpAny_truthy_bool hQ
  . have e : ((List.range its.toArray.size).all fun i => (bs[i]?).getD true) = bs.all id := by
      rw [List.size_toArray, ln, Bool.eq_iff_iff, List.all_eq_true, List.all_eq_true]
      constructor
      . intro h x hx
        obtain ⟨i, hi, ei⟩ := List.getElem_of_mem hx
        have := h i (List.mem_range.mpr hi)
        rw [List.getElem?_eq_getElem hi, ei] at this
        exact this
      . intro h i hi
        have hi' := List.mem_range.mp hi
        rw [List.getElem?_eq_getElem hi']
        exact h _ (List.getElem_mem hi')
    rw [e]
    exact ⟨.bl _, H, I.kept (t' := tk) fun b o q' => hk b o (fun hm => by rw [List.mem_singleton.mp hm] at q'; exact Nat.lt_irrefl _ (Heap.lt_size q')) (Heap.get?_push_of_some _ q'), rfl, q⟩
end
theorem Abt : fillsNumberSlot (.type "tuple") "mul" = pure false :=
  PySem.fillsNumberSlot_seq (id := "tuple.__mul__") (r := some (.builtin "tuple.__rmul__")) PySem.F.slot_tuple_mul.lookup (by decide +kernel) PySem.F.slot_tuple_rmul.lookup (by decide +kernel)
theorem Ahi : seqRepeat? (.type "tuple") = pure (some (.builtin "tuple.__mul__")) := by
  unfold seqRepeat?
  rw [PySem.seqSlot_of (T := "tuple") (name := "__mul__") (id := "tuple.__mul__") PySem.F.slot_tuple_mul.lookup (by decide +kernel), PySem.seqSlot_of (T := "tuple") (name := "__rmul__") (id := "tuple.__rmul__") PySem.F.slot_tuple_rmul.lookup (by decide +kernel)]
  rfl
theorem Agt (k : Int) (t : Tok) (u : Addr) (o : Obj) (xs : Array Value) (n : Nat) (hc : o.cls = .type "tuple") (hd : o.data = .seq xs n) :
    Meets (Builtin.«int.__rmul__» ⟨[.int k t, .ref u], []⟩) (fun _ R s => s.heap.get? u = some o /\ R (.ok (.ret Value.notImplemented)) s) :=
  .of_wp fun prog w A R s h => by
    obtain ⟨hp, g, d, tk, os⟩ := s; obtain ⟨hl, h⟩ := h
    obtain ⟨oc, od, odat, osl⟩ := o
    obtain rfl : oc = .type "tuple" := hc
    obtain rfl : odat = .seq xs n := hd
    wp_walk
    exact ⟨_, rfl, h⟩
open AutoSeq1 (wpAny_loadPart') in
theorem Ahu (k : Int) (t : Tok) (u : Addr) (xs : Array Value) (n : Nat) (dd : Option Addr) (sl : Array (Option Value)) (k0 : ¬ k <= 0) (k1 : ¬ k = 1) (k2 : k < 1000) (hx : ¬ xs.isEmpty = true) (hz : xs.size * k.toNat <= 100000) :
    Meets (Builtin.«tuple.__mul__» ⟨[.ref u, .int k t], []⟩) (fun _ R s => s.heap.get? u = some { cls := .type "tuple", dict := dd, data := .seq xs n, slots := sl } /\
      R (.ok (.ret (.ref s.heap.objs.size))) { s with heap := s.heap.push { cls := .type "tuple", data := .seq ((List.replicate k.toNat xs).foldl (· ++ ·) #[]) } }) :=
  .of_wp fun prog w A R s h => by
    obtain ⟨hp, g, d, tk, os⟩ := s; obtain ⟨hl, h⟩ := h
    have f1 := AutoSeq1.idx_int
    have f2 := AutoSeq1.sub_tuple_tuple
    have hx0 : 0 < xs.size := by
      cases xs with
      | mk l =>
        cases l with
        | nil => exact absurd rfl hx
        | cons a r => simp
    have kn : (k.toNat : Int) = k := Int.toNat_of_nonneg (by omega)
    have zz : (xs.size : Int) * k <= 100000 := by
      rw [<- kn, <- Int.natCast_mul]
      omega
    have g1 : ¬ (decide (k < -2 ^ 63) || decide (k >= 2 ^ 63)) = true := by simp; omega
    have g2 : ¬ (xs.isEmpty || k == 1) = true := by
      rw [Bool.or_eq_true]
      rintro (z | z)
      . exact hx z
      . exact k1 (by simpa using z)
    have g3 : ¬ (decide (k <= 0) || xs.isEmpty) = true := by
      rw [Bool.or_eq_true]
      rintro (z | z)
      . exact k0 (by simpa using z)
      . exact hx z
    have g4 : ¬ ((xs.size : Int) * k > (2 ^ 63 - 1) / 8) := by omega
    have g5 : ¬ Builtin.Tuple.tupleTooMany ((xs.size : Int) * k) = true := by
      unfold Builtin.Tuple.tupleTooMany
      have : (100000 : Nat) <= sizeLine := by decide
      simp only [decide_eq_true_eq]
      omega
    have sz : ((List.replicate k.toNat xs).foldl (· ++ ·) #[]).size <= sizeLine := by
      have e : ∀ (m : Nat) (acc : Array Value), ((List.replicate m xs).foldl (· ++ ·) acc).size = acc.size + m * xs.size := fun m => by
        induction m with
        | zero => intro acc; simp
        | succ m ih =>
          intro acc
          rw [List.replicate_succ, List.foldl_cons, ih, Array.size_append, Nat.succ_mul]
          omega
      rw [e]
      have : (100000 : Nat) <= sizeLine := by decide
      rw [Nat.mul_comm] at hz
      simp only [Array.size_empty]
      omega
    have hT : Heap.IsTuple hp u xs := ⟨_, hl, rfl, n, rfl⟩
    wp_walk using wpAny_loadPart' hl
    rw [if_neg g1]
    refine wpAny_bind (tupleItemsOf_ hT ?_)
    dsimp only
    rw [if_neg g2, if_neg g3, if_neg g4, if_neg g5]
    exact wpAny_bind (wpAny_newObj_type (wpAny_pure ⟨_, rfl, h⟩) sz)
open AutoSeq1 (wpAny_loadPart') in
theorem Agc (t : Tok) (u : Addr) (xs : Array Value) (n : Nat) (dd : Option Addr) (sl : Array (Option Value)) :
    Meets (Builtin.«tuple.__mul__» ⟨[.ref u, .int 1 t], []⟩) (fun _ R s => s.heap.get? u = some { cls := .type "tuple", dict := dd, data := .seq xs n, slots := sl } /\ R (.ok (.ret (.ref u))) s) :=
  .of_wp fun prog w A R s h => by
    obtain ⟨hp, g, d, tk, os⟩ := s; obtain ⟨hl, h⟩ := h
    have f1 := AutoSeq1.idx_int
    have f2 := AutoSeq1.sub_tuple_tuple
    have g1 : ¬ (decide ((1 : Int) < -2 ^ 63) || decide ((1 : Int) >= 2 ^ 63)) = true := by decide
    have g2 : (xs.isEmpty || (1 : Int) == 1) = true := by simp
    have hT : Heap.IsTuple hp u xs := ⟨_, hl, rfl, n, rfl⟩
    wp_walk using wpAny_loadPart' hl
    exact ⟨_, rfl, h⟩
open AutoSeq1 (wpAny_loadPart') in
theorem Afc (t : Tok) (u : Addr) (xs : Array Value) (n : Nat) (dd : Option Addr) (sl : Array (Option Value)) (hx : ¬ xs.isEmpty = true) :
    Meets (Builtin.«tuple.__mul__» ⟨[.ref u, .int 0 t], []⟩) (fun _ R s => s.heap.get? u = some { cls := .type "tuple", dict := dd, data := .seq xs n, slots := sl } /\
      R (.ok (.ret (.ref s.heap.objs.size))) { s with heap := s.heap.push { cls := .type "tuple", data := .seq #[] } }) :=
  .of_wp fun prog w A R s h => by
    obtain ⟨hp, g, d, tk, os⟩ := s; obtain ⟨hl, h⟩ := h
    have f1 := AutoSeq1.idx_int
    have f2 := AutoSeq1.sub_tuple_tuple
    have g1 : ¬ (decide ((0 : Int) < -2 ^ 63) || decide ((0 : Int) >= 2 ^ 63)) = true := by decide
    have g2 : ¬ (xs.isEmpty || (0 : Int) == 1) = true := by simpa using hx
    have g3 : (decide ((0 : Int) <= 0) || xs.isEmpty) = true := by simp
    have hT : Heap.IsTuple hp u xs := ⟨_, hl, rfl, n, rfl⟩
    wp_walk using wpAny_loadPart' hl
    exact ⟨_, rfl, h⟩
section
variable {X : Cx}
def Aji (K : PySem.W.Frag) : R2 := fun x y H Q => ∃ (a : Addr) (k : Nat) (xs : List V), x = .ref a /\ y = .int (k : Nat) /\ SqT K H a xs /\ xs ≠ [] /\ k < 1000 /\ xs.length * k <= 100000 /\ ∀ z H', Same H H' -> SqT K H' z (List.replicate k xs).flatten -> Q (.ref z) H'
theorem Agv : OpR X (binaryOp .Mult) (Aji X.K) := by
  intro pins s σ H x y v u Q I rx ry h
  obtain ⟨a, k, xs, rfl, rfl, ha, hx, hk, hz, q⟩ := h
  cases rx
  obtain ⟨t, rfl⟩ := ry
  obtain ⟨its, r1, p1, _⟩ := I.tuple ha
  obtain ⟨⟨c1, d1, t1, l1⟩, ho, hc, n, hd⟩ := (show s.heap.IsTuple a its.toArray from p1)
  simp only at hc hd
  subst hc hd
  have hne : ¬ its.toArray.isEmpty = true := by
    have := fun z => hx (r1.nil_iff.mp z)
    simpa using this
  refine wpAny_binaryOp_repeat_ref (T := "tuple") (U := "int") (by decide) ⟨_, ho, rfl⟩ (fun s' => typeIs_int s' k t) Abt F.fills_int_mul F.slot_int_rmul Ahi F.slot_int_index.lookup
    (call_meets F.slot_int_rmul (typeIs_int s k t) F.entry_int_rmul (F.args_int_rmul_2 _ _) (Agt k t a _ its.toArray n rfl rfl) ⟨ho, rfl, ⟨_, ho, rfl⟩, ?_⟩)
  by_cases k0 : k = 0
  . subst k0
    refine call_meets F.slot_tuple_mul ⟨_, ho, rfl⟩ F.entry_tuple_mul (F.args_tuple_mul_2 _ _) (Afc t a its.toArray n d1 l1 hne) ⟨ho, ?_⟩
    exact ⟨.ref s.heap.objs.size, _, I.laid (t' := s.toks) (o := .tup []) (fun b ob q' => Heap.get?_push_of_some _ q') (Nat.le_refl _) ⟨Nat.zero_le _, [], .nil, IsTup.new _ _⟩, rfl, q _ _ (Same.upd I.fresh _) (.of Af)⟩
  by_cases k1 : k = 1
  . subst k1
    refine call_meets F.slot_tuple_mul ⟨_, ho, rfl⟩ F.entry_tuple_mul (F.args_tuple_mul_2 _ _) (Agc t a its.toArray n d1 l1) ⟨ho, ?_⟩
    exact ⟨.ref a, H, I, rfl, q a H (Same.refl _) (by simpa using ha)⟩
  have kt : ((k : Nat) : Int).toNat = k := Int.toNat_natCast k
  refine call_meets F.slot_tuple_mul ⟨_, ho, rfl⟩ F.entry_tuple_mul (F.args_tuple_mul_2 _ _) (Ahu k t a its.toArray n d1 l1 (by omega) (by omega) (by omega) hne (by rw [List.size_toArray, kt, <- r1.length]; exact hz)) ⟨ho, ?_⟩
  have e : (List.replicate ((k : Nat) : Int).toNat its.toArray).foldl (· ++ ·) #[] = (List.replicate k its).flatten.toArray := by
    rw [kt]
    have := foldl_rep its k []
    rw [List.nil_append] at this
    exact this
  rw [e]
  refine ⟨.ref s.heap.objs.size, _, I.laid (t' := s.toks) (o := .tup (List.replicate k xs).flatten) (fun b ob q' => Heap.get?_push_of_some _ q') (Nat.le_refl _) ⟨?_, _, r1.rep k, IsTup.new _ _⟩, rfl, q _ _ (Same.upd I.fresh _) (.of Af)⟩
  rw [len_rep, Nat.mul_comm]
  exact Nat.le_trans hz (by decide)
end
section
variable {X : Cx}
theorem Acw : Ik X (.builtin "isinstance") (fun xs H Q => ∃ (a : Addr) (ys : List V) (T : String) (b : Bool), xs = [.ref a, .ty T] /\ SqT X.K H a ys /\ PySem.W.kitOne X.K (.type "tuple") (.type T) = some b /\ Q (.bl b) H) := by
  intro pins s σ H xs us Q I r h
  obtain ⟨a, ys, T, b, rfl, ht, hk, q⟩ := h
  obtain ⟨u, c, rfl, ru, rc⟩ := vals2 r
  cases rc
  cases ru
  obtain ⟨its, rv, p, _⟩ := I.tuple ht
  obtain ⟨o, h1, h2, _⟩ := (show s.heap.IsTuple a its.toArray from p)
  exact PySem.W.kia_one PySem.W.kitx_tuple I.kIn ⟨o, h1, h2⟩ hk (fun z => nomatch z) fun tk => ⟨.bl b, H, I.tok tk, rfl, q⟩
end
section
variable {prog : Program} {w : World} {A : Around} {E : Value -> Shared -> Prop} {s : Shared}
theorem Z2 {t sl : Addr} {ys : Array Value} {vl vu : Value} {lo hi : Option Int} {Q : Value -> Shared -> Prop} (ht : IsTup s.heap t ys) (hs : s.heap.IsSliceOf sl vl vu .none) (pl : IsPart vl lo) (pu : IsPart vu hi)
    (w1 : HT.sIx ys.size 0 lo = 0) (w2 : HT.sIx ys.size ys.size hi = ys.size) (h : Q (.ref t) s) : wpAny (model prog w) A (getItem (.ref t) (.ref sl)) Q E s := by
  obtain ⟨os, eos, cs, ds⟩ := id hs
  have ty : s.TypeIs (.ref sl) "slice" := ⟨os, eos, cs⟩
  unfold getItem
  try with_reducible refine (wpAny_holding ?_)
  first | refine (wpAny_bind (wpAny_pure ?_)) | skip
  refine wpAny_bind (wpAny_sequenceKey ht.typeIs (by decide) (?_))
  refine wpAny_bind (wpAny_callSpecial?_slot (name := Str.ofString "__getitem__") ht.typeIs PyProof.Rows.slot_tuple_getitem (wpAny_call_entry PyProof.Rows.slot_tuple_getitem ht.typeIs entry_tuple_getitem ?_ (args_tuple_getitem _ _)))
  show wpAny _ A.in1 (Builtin.Tuple.tupleItemsOf (.ref t) >>= _) _ _ s
  refine wpAny_bind (tupleItemsOf_ ht (?_))
  refine wpAny_bind (wpAny_typeOf ty ?_)
  rw [if_pos (by decide)]
  refine wpAny_bind (HT.Jo hs pl pu ?_)
  have yes : (((HT.sIx ys.size 0 lo : Nat) : Int) == 0 && (1 : Int) == 1 && (HT.sIx ys.size ys.size hi - HT.sIx ys.size 0 lo) == ys.size) = true := by
    rw [w1, w2]
    simp
  show wpAny _ A.in1 (if (((HT.sIx ys.size 0 lo : Nat) : Int) == 0 && (1 : Int) == 1 && (HT.sIx ys.size ys.size hi - HT.sIx ys.size 0 lo) == ys.size) = true then _ else _) _ _ s
  rw [if_pos yes]
  refine wpAny_bind ?_
  unfold Builtin.Tuple.tupleIsExact
  refine wpAny_bind (wpAny_typeOf ht.typeIs (wpAny_pure ?_))
  rw [if_pos (by decide)]
  exact wpAny_bind (wpAny_rule (wpAny_pure ⟨_, rfl, wpAny_pure h⟩))
end
section
variable {X : Cx}
def Akp (K : PySem.W.Frag) : V -> Option Int -> Option Int -> Hp -> VK -> Prop := fun x lo hi H Q => ∃ a xs, x = .ref a /\ SqT K H a xs /\ ∀ z H', Same H H' -> SqT K H' z (T8 xs lo hi) -> Q (.ref z) H'
theorem Td : SlR X (Akp X.K) := by
  intro pins s σ H x v vl vu lo hi sl Q I rx hs pl pu h
  obtain ⟨a, xs, rfl, hx, q⟩ := h
  by_cases hw : HT.sIx xs.length 0 lo = 0 /\ HT.sIx xs.length xs.length hi = xs.length
  . cases rx
    obtain ⟨its, r, ht, hz⟩ := I.tuple hx
    have hlen : its.toArray.size = xs.length := by rw [List.size_toArray]; exact r.length.symm
    refine ⟨"tuple", _, PyProof.Rows.slot_tuple_getitem.lookup, ht.typeIs, Z2 ht hs pl pu (by rw [hlen]; exact hw.1) (by rw [hlen]; exact hw.2) ⟨.ref a, H, I, rfl, q a H (Same.refl _) ?_⟩⟩
    have e : T8 xs lo hi = xs := by
      unfold T8
      rw [hw.1, hw.2, List.drop_zero, Nat.sub_zero, List.take_length]
    rw [e]
    exact hx
  . exact Ahz pins s σ H _ v vl vu lo hi sl Q I rx hs pl pu ⟨a, xs, rfl, hx, hw, fun p hp => q p _ (Same.upd hp _) (.of Af)⟩
def Aks (K : PySem.W.Frag) : R2 := fun x y H Q => ∃ a xs i v, x = .ref a /\ y = .int i /\ (SqL K H a xs \/ SqT K H a xs) /\ atI xs i = some v /\ Q v H
theorem Aic : IxR X (Aks X.K) := by
  intro value slice pins s σ H x y v u Q I rx ry h hs
  obtain ⟨a, xs, i, w, rfl, rfl, hq, e, q⟩ := h
  rcases hq with hq | hq
  . exact Fg value slice pins s σ H _ _ v u Q I rx ry ⟨a, xs, i, w, rfl, rfl, hq, e, q⟩ hs
  . exact Az value slice pins s σ H _ _ v u Q I rx ry ⟨a, xs, i, w, rfl, rfl, hq, e, q⟩ hs
def Akd (K : PySem.W.Frag) : V -> Option Int -> Option Int -> Hp -> VK -> Prop := fun x lo hi H Q => ∃ a xs, x = .ref a /\ ((SqL K H a xs /\ ∀ z H', Same H H' -> SqL K H' z (T8 xs lo hi) -> Q (.ref z) H') \/ (SqT K H a xs /\ ∀ z H', Same H H' -> SqT K H' z (T8 xs lo hi) -> Q (.ref z) H'))
theorem Aik : SlR X (Akd X.K) := by
  intro pins s σ H x v vl vu lo hi sl Q I rx hs pl pu h
  obtain ⟨a, xs, rfl, h | h⟩ := h
  . exact Ae7 pins s σ H _ v vl vu lo hi sl Q I rx hs pl pu ⟨a, xs, rfl, h.1, fun p hp => h.2 p _ (Same.upd hp _) (.of Af)⟩
  . exact Td pins s σ H _ v vl vu lo hi sl Q I rx hs pl pu ⟨a, xs, rfl, h.1, h.2⟩
end
end L2
namespace L2
open PySem PySem.Spec PyProof.Rows
section
variable {X : Cx} {e st : Expr} {te tst : TE} {pos p2 : Pos}
def Akx (K : PySem.W.Frag) (te tst : TE) : TE := fun σ H Q => te σ H fun x H1 => tst σ H1 fun y H2 => ∃ a xs, x = .ref a /\ y = .int (-1) /\ SqT K H2 a xs /\ ∀ p, H2 p = none -> Q (.ref p) (upd H2 p (.tup xs.reverse))
theorem Lp {K : PySem.W.Frag} {σ : St} {H : Hp} {Q : VK} : Akx K te tst σ H Q = te σ H (fun x H1 => tst σ H1 fun y H2 => ∃ a xs, x = .ref a /\ y = .int (-1) /\ SqT K H2 a xs /\ ∀ p, H2 p = none -> Q (.ref p) (upd H2 p (.tup xs.reverse))) := rfl
end
theorem Yl {H1 : Hp} {p : Addr} {cσ : St} {g : TG} {tt : TT} {te : TE} {Q : VK} {α : Type} {es : List α} {inj : α -> V} {J : It} (pf : α -> Bool) (f : α -> V) (hz : es.length <= sizeLine) (hp : H1 p = none) (hJ : Wk J H1 es inj)
    (step : ∀ (e : α) (H' : Hp) (R : VK) (RF : Hp -> Prop), e ∈ es -> Same H1 H' -> (pf e = true -> ∀ H6, Same H' H6 -> R (f e) H6) -> (pf e = false -> ∀ H6, Same H' H6 -> RF H6) -> g (inj e) cσ H' fun σ4 H4 => Kp cσ σ4 /\ tt σ4 H4 fun b H5 => if b = true then te σ4 H5 R else RF H5)
    (done : ∀ H', Same H1 H' -> H' p = some (.lst ((es.filter pf).map f)) -> Q (.ref p) H') : cIn J cσ g tt te Q H1 p := by
  have su : ∀ {H' : Hp} {o : HO}, Same H1 H' -> Same H1 (upd H' p o) := fun {H' o} s b u e => by
    rw [Cm (Bt e hp)]
    exact s b u e
  refine ⟨fun i m acc H' => m = es.length - i /\ i <= es.length /\ acc = ((es.take i).filter pf).map f /\ H' p = some (.lst acc) /\ Same H1 H', ⟨es.length, by simp, Nat.zero_le _, by simp, Af, su (Same.refl _)⟩, ?_⟩
  rintro i m acc H' ⟨rfl, hi, rfl, hH, s⟩
  cases he : es[i]? with
  | none =>
    have e : i = es.length := Nat.le_antisymm hi (List.getElem?_eq_none_iff.mp he)
    subst e
    rw [List.take_length] at hH
    exact .inl ⟨(hJ _ _ s).1 he, done _ s hH⟩
  | some e =>
    obtain ⟨go, yl⟩ := (hJ _ _ s).2 e he
    refine .inr ⟨go, fun x H3 y => ?_⟩
    obtain ⟨rfl, rfl⟩ := yl x H3 y
    obtain ⟨hlt, _⟩ := List.getElem?_eq_some_iff.mp he
    have tk : es.take (i + 1) = es.take i ++ [e] := by rw [List.take_succ, he]; rfl
    have fl : ((es.take i).filter pf).length <= i := Nat.le_trans (List.length_filter_le _ _) (by rw [List.length_take]; omega)
    refine step e H3 _ _ (List.mem_of_getElem? he) s (fun hpf H6 s6 => ⟨s6 _ _ hH, by rw [List.length_map]; omega, _, by omega, rfl, hlt, ?_, Af, su (s.trans s6)⟩) (fun hpf H6 s6 => ⟨_, by omega, rfl, hlt, ?_, ?_, s.trans s6⟩)
    . rw [tk, List.filter_append, List.map_append]
      simp [hpf]
    . rw [tk, List.filter_append, List.map_append]
      simp [hpf]
    . exact s6 _ _ hH
end L2
namespace L2
open PySem PySem.Spec PyProof.Rows
set_option maxRecDepth 100000
theorem Ri : Slot "reversed" "__next__" "reversed.__next__" := .of (owner := "reversed") (n := "__next__") (by rw [typeLookup_type, builtinLookup_eq_fast] ; kernel_rfl) (by decide +kernel) (by decide +kernel) (by decide +kernel) (by first | exact .inl (by decide +kernel) | exact .inr (by decide +kernel)) (by rw [isSubtype_type] ; kernel_rfl)
theorem Aav : Slot "reversed" "__iter__" "reversed.__iter__" := .of (owner := "reversed") (n := "__iter__") (by rw [typeLookup_type, builtinLookup_eq_fast] ; kernel_rfl) (by decide +kernel) (by decide +kernel) (by decide +kernel) (by first | exact .inl (by decide +kernel) | exact .inr (by decide +kernel)) (by rw [isSubtype_type] ; kernel_rfl)
theorem Agj : Slot "reversed" "__init__" "object.__init__" := .of (owner := "object") (n := "__init__") (by rw [typeLookup_type, builtinLookup_eq_fast] ; kernel_rfl) (by decide +kernel) (by decide +kernel) (by decide +kernel) (by first | exact .inl (by decide +kernel) | exact .inr (by decide +kernel)) (by rw [isSubtype_type] ; kernel_rfl)
theorem S5 : entryFor table "reversed.__next__" = some Builtin.«reversed.__next__» := entryFor_of_tree (by kernel_rfl)
theorem Z8 : entryFor table "reversed.__new__" = some Builtin.«reversed.__new__» := entryFor_of_tree (by kernel_rfl)
theorem Zd : entryFor table "reversed.__iter__" = some Builtin.«dict_keyiterator.__iter__» :=
  entryFor_alias (id' := "dict_keyiterator.__iter__") (by kernel_rfl) (by first | rfl | decide +kernel | (unfold String.splitOn ; simp +decide [String.splitOnAux])) (by decide +kernel) (by kernel_rfl)
theorem Aem : mroOf (.type "reversed") = pure [.type "reversed", .type "object"] := by rw [mroOf_type] ; kernel_rfl
theorem Ajy : typeLookup (.type "reversed") "__new__" = pure (some (.builtin "reversed.__new__")) := by rw [typeLookup_type, builtinLookup_eq_fast] ; kernel_rfl
theorem Zx : TypeCalled "reversed" "reversed.__new__" "object.__init__" := ⟨by decide +kernel, by decide +kernel, ⟨_, _, Aem⟩, madeBy_type Aem Ajy (by decide +kernel), by decide +kernel, by rw [isSubtype_type] ; kernel_rfl, Agj⟩
theorem Ai3 (a : Value) : checkTypeCall "reversed" ⟨[a], []⟩ = pure () := by kernel_rfl
theorem Ai8 (a : Value) : checkBuiltinCall "reversed.__new__" ⟨[.type "reversed", a], []⟩ = pure () := by kernel_rfl
theorem Xf : Manifest.owners.lookup (String.ofList ['d', 'e', 's', 'r', 'e', 'v', 'e', 'r'].reverse) = some Manifest.sig_reversed := by kernel_rfl
theorem R8 (a : Value) : argsOk "reversed.__next__" ⟨[a], []⟩ := by
  unfold argsOk ; rw [signature?_of (id := "reversed.__next__") (n := ['_', '_', 't', 'x', 'e', 'n', '_', '_']) (o := ['d', 'e', 's', 'r', 'e', 'v', 'e', 'r']) (by kernel_rfl) Xf] ; kernel_rfl
theorem Yq (a : Value) : argsOk "reversed.__iter__" ⟨[a], []⟩ := by
  unfold argsOk ; rw [signature?_of (id := "reversed.__iter__") (n := ['_', '_', 'r', 'e', 't', 'i', '_', '_']) (o := ['d', 'e', 's', 'r', 'e', 'v', 'e', 'r']) (by kernel_rfl) Xf] ; kernel_rfl
theorem Aig : isSubtype (.type "reversed") (.type "reversed") = pure true := by rw [isSubtype_type] ; kernel_rfl
theorem Zw : isSubtype (.type "tuple") (.type "dict") = pure false := by rw [isSubtype_type] ; kernel_rfl
abbrev Aco (h : Heap) (r : Addr) (t : Value) (i : Int) : Prop := h.get? r = some { cls := .type "reversed", dict := none, data := .fields #[t, rawInt i], slots := #[] }
theorem Aah : typeLookup (.type "tuple") "__reversed__" = pure none := by rw [typeLookup_type, builtinLookup_eq_fast] ; kernel_rfl
section
variable {prog : Program} {w : World} {A : Around} {E : Value -> Shared -> Prop} {s : Shared} {r t : Addr} {ys : Array Value}
theorem Afv {i : Nat} {x : Value} {Q : Option Value -> Shared -> Prop} (hr : Aco s.heap r (.ref t) i) (ht : s.heap.IsTuple t ys) (hx : ys[i]? = some x) (hs : ys.size <= sizeLine)
    (k : ∀ g, Aco g r (.ref t) ((i : Int) - 1) -> Heap.SameBut r s.heap g -> Q (some x) { s with heap := g, toks := s.toks + 1 }) : wpAny (model prog w) A (pyNext (.ref r)) Q E s := by
  have ty : s.TypeIs (.ref r) "reversed" := ⟨_, hr, rfl⟩
  have hi : i < ys.size := (Array.getElem?_eq_some_iff.mp hx).1
  have hn := R6
  unfold pyNext
  refine wpAny_bind (wpAny_attempt (wpAny_callSpecial?_slot (name := Str.ofString "__next__") ty Ri (wpAny_call_entry Ri ty S5 ?_ (R8 _))))
  show wpAny _ _ (field (.ref r) 0 >>= _) _ _ _
  refine wpAny_bind (wpAny_field hr rfl (x := .ref t) rfl ?_)
  show wpAny _ _ (field (.ref r) 1 >>= _) _ _ _
  refine wpAny_bind (wpAny_field hr rfl (x := rawInt i) rfl ?_)
  show wpAny _ _ (if (i : Int) < 0 then _ else _) _ _ _
  rw [if_neg (by omega)]
  refine wpAny_bind (wpAny_specialOf ht.typeIs PyProof.Rows.slot_tuple_getitem.lookup ?_)
  rw [if_neg (by decide)]
  refine wpAny_bind (wpAny_mkInt ?_)
  have ht' : ({ s with toks := s.toks + 1 } : Shared).heap.IsTuple t ys := ht
  refine wpAny_bind (wpAny_attempt (getItem_tuple (j := i) ht' (by omega) (by omega) (by unfold seqIndex? ; simp ; omega) hx ?_))
  show wpAny _ _ (field (.ref r) 1 >>= _) _ _ _
  refine wpAny_bind (wpAny_field hr rfl (x := rawInt i) rfl ?_)
  show wpAny _ _ (setField (.ref r) 1 (rawInt ((i : Int) - 1)) >>= _) _ _ _
  refine wpAny_bind (wpAny_setField_rec hr (by simp) fun g hg sb => ?_)
  exact wpAny_pure ⟨_, rfl, wpAny_pure (k g hg sb)⟩
theorem Agh {Q : Option Value -> Shared -> Prop} {i : Int} (hi : i < 0) (hh : A.handled = none) (hr : Aco s.heap r (.ref t) i) (k : ∀ g, Heap.ExtBut r s.heap g -> Q none { s with heap := g }) : wpAny (model prog w) A (pyNext (.ref r)) Q E s := by
  have ty : s.TypeIs (.ref r) "reversed" := ⟨_, hr, rfl⟩
  unfold pyNext
  refine wpAny_bind (wpAny_attempt (wpAny_callSpecial?_slot (name := Str.ofString "__next__") ty Ri (wpAny_call_entry Ri ty S5 ?_ (R8 _))))
  show wpAny _ _ (field (.ref r) 0 >>= _) _ _ _
  refine wpAny_bind (wpAny_field hr rfl (x := .ref t) rfl ?_)
  show wpAny _ _ (field (.ref r) 1 >>= _) _ _ _
  refine wpAny_bind (wpAny_field hr rfl (x := rawInt i) rfl ?_)
  show wpAny _ _ (if i < 0 then _ else _) _ _ _
  rw [if_pos hi]
  refine wpAny_bind (wpAny_rule ?_)
  show wpAny _ _ ((setField (.ref r) 1 (rawInt (-1)) >>= fun _ => setField (.ref r) 0 .none) >>= _) _ _ _
  refine wpAny_bind (wpAny_bind (wpAny_setField_rec hr (by simp) fun g1 hg1 sb1 => ?_))
  replace sb1 : Heap.SameBut r s.heap g1 := sb1
  replace hg1 : Aco g1 r (.ref t) (-1) := hg1
  refine wpAny_setField_rec hg1 (by simp) fun g2 hg2 sb2 => ?_
  replace sb2 : Heap.SameBut r g1 g2 := sb2
  refine wpAny_bind ?_
  unfold Builtin.SmallTypes.stopIteration
  refine wpAny_bind ?_
  simp only [newTuple, newExc]
  refine wpAny_bind (wpAny_newObj_type ?_ (by size_fits))
  refine wpAny_bind (m := firstArgMember _ _) (wpAny_of_eq (a := Value.none) (by first | rfl | (simp only [firstArgMember] ; rfl)) ?_)
  refine (wpAny_newObj_type ?_ (by size_fits))
  simp only [raiseNew]
  refine wpAny_bind (wpAny_handled ?_)
  first | rw [show A.in1.handled = none from hh] | (rw [hh])
  refine wpAny_bind (wpAny_pure (wpAny_throw ?_))
  refine wpAny_bind (wpAny_isInstance (T := "StopIteration") (b := true) ⟨_, Heap.get?_push_size _ rfl, rfl⟩ isSubtype_stop ?_)
  refine wpAny_pure (k _ ?_)
  exact ((sb1.trans sb2).extBut.push _).push _
end
section
variable {prog : Program} {w : World} {A : Around} {E : Value -> Shared -> Prop} {s : Shared}
theorem Af9 {id : String} {b : Builtin} {args : List Value} {R : Result -> Shared -> Prop} (hk : builtinKind id = none) (hp : plainId id = true) (hb : entryFor table id = some b) (ha : argsOk id ⟨args, []⟩)
    (hc : wpAny (model prog w) A.in1 (b ⟨args, []⟩) (fun fin s' => ∃ v, fin = .done (.ret v) /\ R (.ok (.ret v)) s') (fun e s' => R (.error e) s') s) : codeAny (model prog w) A (.call (.builtin id) ⟨args, []⟩) R s := by
  refine codeAny_call_builtin hp hb ?_
  have hfin := wpAny_mono hc (Q' := fun fin s' => match fin with | .done f => R (.ok f) s' | .again c' => c'.quiet = true /\ codeAny (model prog w) A c' R s')
    (fun fin s' h' => by obtain ⟨v, rfl, hv⟩ := h'; exact hv) fun _ _ h' => h'
  simp only [checkBuiltinCall, hk]
  cases hsig : Manifest.signature? id with
  | none => exact wpAny_pure hfin
  | some sig =>
    simp only [argsOk, hsig] at ha
    exact wpAny_of_eq ha hfin
theorem Adi {t : Addr} {items : Array Value} {R : Result -> Shared -> Prop} (ht : IsTup s.heap t items) (hfit : (items.size : Int) < 2 ^ 63)
    (h : R (.ok (.ret (.int items.size (s.toks + 1)))) { s with toks := s.toks + 1 + 1 }) : codeAny (model prog w) A (.call (.builtin "len") ⟨[.ref t], []⟩) R s := by
  refine Af9 kind_len plain_len entry_len (args_len1 _) ?_
  unfold Builtin.«len»
  refine wpAny_bind (m := oneArg "len" _) (wpAny_pure ?_)
  refine wpAny_bind (m := callSpecial? (.ref t) (Str.ofString "__len__")) (wpAny_callSpecial?_slot (name := Str.ofString "__len__") ht.typeIs slot_tuple_len
    (wpAny_call_entry slot_tuple_len ht.typeIs entry_tuple_len ?_ (args_tuple_len _)))
  show wpAny _ _ (do retInt (<- Builtin.Tuple.tupleItemsOf (.ref t)).size) _ _ s
  refine wpAny_bind (tupleItemsOf_ ht ?_)
  refine wpAny_bind (wpAny_mkInt (wpAny_pure ⟨_, rfl, ?_⟩))
  refine wpAny_bind (wpAny_holding (wpAny_pure ?_))
  refine wpAny_bind (wpAny_letGo ?_)
  show wpAny _ _ (if ((items.size : Nat) : Int) < 0 then _ else _) _ _ _
  rw [if_neg (by omega)]
  show wpAny _ _ (if ((items.size : Nat) : Int) >= 2 ^ 63 then _ else _) _ _ _
  rw [if_neg (by omega)]
  exact wpAny_bind (wpAny_mkInt (wpAny_pure ⟨_, rfl, h⟩))
theorem J6 {e : Addr} {t : Value} {i : Int} {Q : Value -> Shared -> Prop} (he : Aco s.heap e t i) (h : Q (.ref e) s) : wpAny (model prog w) A (pyIter (.ref e)) Q E s := by
  have hT : s.TypeIs (.ref e) "reversed" := ⟨_, he, rfl⟩
  refine wpAny_pyIter_slot hT Aav (wpAny_call_entry Aav hT Zd ?_ (Yq _))
  show wpAny _ _ (ret (.ref e)) _ _ s
  exact wpAny_pure ⟨_, rfl, "reversed", _, hT, Ri.lookup, h⟩
end
open AutoSeq1 (wpAny_loadPart') in
theorem Acq (u : Addr) (xs : Array Value) (o : Obj) (n : Nat) (hc : o.cls = .type "tuple") (hd : o.data = .seq xs n) (hz : xs.size <= sizeLine) :
    Meets (Builtin.«reversed.__new__» ⟨[.type "reversed", .ref u], []⟩) (fun _ R s => s.heap.get? u = some o /\ R (.ok (.ret (.ref s.heap.objs.size)))
        { s with heap := s.heap.push { cls := .type "reversed", data := .fields #[.ref u, rawInt ((xs.size : Int) - 1)] }, toks := s.toks + 1 + 1 }) :=
  .of_wp fun prog w A R s h => by
    obtain ⟨hp, g, d, tk, os⟩ := s; obtain ⟨hu, h⟩ := h
    obtain ⟨oc, od, odat, osl⟩ := o
    obtain rfl : oc = .type "tuple" := hc
    obtain rfl : odat = .seq xs n := hd
    have f1 := Aah
    have f2 := PyProof.Rows.slot_tuple_getitem.lookup
    have f3 := Aig
    have f4 := Zw
    have hn := R6
    have hT : Heap.IsTuple hp u xs := ⟨_, hu, rfl, n, rfl⟩
    have hfit : (xs.size : Int) < 2 ^ 63 := by omega
    wp_walk using wpAny_loadPart' hu
    refine Adi hT hfit ?_
    show wpAny _ _ _ _ _ _
    refine wpAny_bind (wpAny_of_eq (a := some (xs.size : Int)) rfl ?_)
    show wpAny _ _ (Builtin.SmallTypes.newRecord (Value.type "reversed") [Value.ref u, rawInt (xs.size - 1)] >>= _) _ _ _
    unfold Builtin.SmallTypes.newRecord
    refine wpAny_bind (wpAny_newObj_type (wpAny_pure ⟨_, rfl, h⟩) (by size_fits))
def Itv (K : PySem.W.Frag) (a : Addr) (n : Nat) : It :=
  ⟨fun i H => ∃ xs x, SqT K H a xs /\ xs.length = n /\ xs.reverse[i]? = some x, fun i H x H' => H' = H /\ ∀ xs, SqT K H a xs -> xs.reverse[i]? = some x, fun i _ => n <= i⟩
theorem Af0 {P : Program} {w : World} {K : PySem.W.Frag} {tg : Expr} (a it : Addr) (n : Nat) : Turn P w K tg (Itv K a n) [it] it (fun i h => Aco h it (.ref a) ((n : Int) - 1 - i)) where
  mem := by simp
  obj := fun i h st b hb => by
    have e : b = it := by simpa using hb
    subst e
    exact ⟨_, st, fun v z => by cases (show Data.fields _ = Data.cell v from z)⟩
  keep := fun i h h' st k => k it (by simp) _ st
  item := by
    intro X hP hw hK hc i pins s σ H E I hf st hg
    subst hP hw hK
    obtain ⟨xs, x, hq, hl, hx⟩ := hg
    obtain ⟨its, rv, p, hz⟩ := I.tuple hq
    have hin : i < n := by
      have := (List.getElem?_eq_some_iff.mp hx).1
      simpa [hl] using this
    have hx' : xs[n - 1 - i]? = some x := by
      rw [List.getElem?_reverse (by omega)] at hx
      rw [<- hl]; exact hx
    obtain ⟨u, hu, ru⟩ := rv.get hx'
    obtain ⟨f0, f1, f2, f3, f4, f5⟩ := hf it (by simp)
    have st0 : Aco s.heap it (.ref a) ((n - 1 - i : Nat) : Int) := by
      have z : ((n - 1 - i : Nat) : Int) = (n : Int) - 1 - i := by omega
      rw [z]; exact st
    have hl2 := rv.length
    refine Afv st0 (show s.heap.IsTuple a its.toArray from p) (x := u) (by simpa using hu) (by simp; omega) fun h' st' sb => ?_
    have I1 : Inv X pins σ H { s with heap := h', toks := s.toks + 1 } := I.turned (t' := s.toks + 1) (fun b o hb e => (sb.2 b hb).trans e) f0 f1 f3 f4 f5
    have st2 : Aco h' it (.ref a) ((n : Int) - 1 - ((i + 1 : Nat) : Int)) := by
      have z : ((n - 1 - i : Nat) : Int) - 1 = (n : Int) - 1 - ((i + 1 : Nat) : Int) := by omega
      rw [<- z]; exact st'
    exact ⟨u, rfl, Ab6 (s := { s with heap := h', toks := s.toks + 1 }) st2 rfl rfl (by decide) ⟨x, H, I1, ru, ⟨rfl, fun ys hy => by rw [I.tuple_inj hy hq]; exact hx⟩, st2, fun b hb => (hf b hb).1⟩⟩
  done := by
    intro X hP hw hK hc i pins s σ H E I hf st hg
    subst hP hw hK
    have hg : n <= i := hg
    obtain ⟨f0, f1, f2, f3, f4, f5⟩ := hf it (by simp)
    exact Agh (i := (n : Int) - 1 - i) (by omega) (I.ok.hd hc) st fun h' eb => ⟨rfl, I.turned (t' := s.toks) (fun b o hb e => eb b o hb e) f0 f1 f3 f4 f5⟩
  self := fun _ _ _ _ _ st h => J6 st h
section
variable {X : Cx} {a : Expr} {ta : TA} {tg : Expr} {p pos : Pos}
def iRv (K : PySem.W.Frag) (ta : TA) : TI := fun σ H R => ta σ H fun vs H1 => ∃ a, vs = [.ref a] /\ ∃ xs, SqT K H1 a xs /\ R (Itv K a xs.length) H1
theorem Adh (hg : Gl X "reversed") (hm : X.mg "reversed" = none) (ha : PA X [a] ta) (hs : starEach [a] X.env = [(false, eval a X.env)] := by rfl) : PI X tg (.Call (.Name "reversed" p) [a] [] pos) (iRv X.K ta) := by
  intro pins s σ H R I h
  refine Call_ (Ow I hg hm boot_reversed (PyProof.Rows.callWith_type1 (thn (ha pos pins s σ H _ I h) fun us s1 ⟨vs, H1, I1, r1, q1⟩ => ?_) hs rfl))
  obtain ⟨b, rfl, xs, hq, q⟩ := q1
  obtain ⟨v, rfl, rv⟩ := vals1 r1
  cases rv
  obtain ⟨its, rr, pl, hz⟩ := I1.tuple hq
  obtain ⟨o, ho, hc, n, hd⟩ := (show s1.heap.IsTuple b its.toArray from pl)
  have hl := rr.length
  refine callType_new Zx (by decide) (Ai3 _) (Ai8 _) (fun obj => F.args_object_init_2 obj _) Z8 (Acq b its.toArray o n hc hd (by simp; omega)) ⟨ho, ?_⟩
  show _ /\ _
  have he : Aco (s1.heap.push { cls := .type "reversed", data := .fields #[.ref b, rawInt ((its.toArray.size : Int) - 1)] }) s1.heap.objs.size (.ref b) ((xs.length : Int) - 1 - ((0 : Nat) : Int)) := by
    have z2 := Heap.get?_push_size s1.heap (o := { cls := .type "reversed", data := .fields #[.ref b, rawInt ((its.toArray.size : Int) - 1)] }) rfl
    have z : (xs.length : Int) - 1 - ((0 : Nat) : Int) = (its.toArray.size : Int) - 1 := by simp; omega
    rw [z]; exact z2
  have I2 : Inv X pins σ H1 { s1 with heap := s1.heap.push { cls := .type "reversed", data := .fields #[.ref b, rawInt ((its.toArray.size : Int) - 1)] }, toks := s1.toks + 1 + 1 } :=
    I1.kept (t' := s1.toks + 1 + 1) fun c o' e => Heap.get?_push_of_some _ e
  refine ⟨⟨_, he, rfl⟩, J6 he ⟨s1.heap.objs.size, [s1.heap.objs.size], _, _, H1, rfl, I2, Af0 b _ _, he, fun c hcm => ?_, q⟩⟩
  have hge : s1.heap.objs.size <= c := by
    have z : c = s1.heap.objs.size := by simpa using hcm
    exact Nat.le_of_eq z.symm
  exact I1.fpOk hge (I1.hok.fresh hge)
end
theorem Kr {K : PySem.W.Frag} {σ : St} {H : Hp} {ta : TA} {R : It -> Hp -> Prop} : iRv K ta σ H R = ta σ H (fun vs H1 => ∃ a, vs = [.ref a] /\ ∃ xs, SqT K H1 a xs /\ R (Itv K a xs.length) H1) := rfl
theorem Ag6 {K : PySem.W.Frag} {H : Hp} {α : Type} {es : List α} {inj : α -> V} {a : Addr} (h : SqT K H a (es.map inj)) : Agw (Itv K a es.length) H es.reverse inj := fun i => by
  refine ⟨fun e => ?_, fun e he => ⟨⟨_, inj e, h, by simp, ?_⟩, ?_⟩⟩
  . have z := List.getElem?_eq_none_iff.mp e
    show es.length <= i
    simpa using z
  . rw [<- List.map_reverse, List.getElem?_map, he]; rfl
  . rintro x H3 ⟨rfl, k⟩
    have z := k _ h
    rw [<- List.map_reverse, List.getElem?_map, he] at z
    exact ⟨rfl, (Option.some.inj z).symm⟩
end L2
namespace L2
open PySem PySem.Spec PyProof.Rows
set_option maxRecDepth 100000
theorem Ho.has {P : Program} {w : World} {H : Hp} {h : Heap} {a : Addr} {o : HO} (x : Ho P w H h a o) : ∃ ob, h.get? a = some ob := by
  cases o with
  | lst xs => obtain ⟨_, _, _, _, e⟩ := x; exact ⟨_, e⟩
  | tup xs => obtain ⟨_, _, _, ob, e, _⟩ := x; exact ⟨_, e⟩
  | dK kvs => obtain ⟨_, _, _, _, o, _, _, e, _⟩ := x; exact ⟨_, e⟩
  | dT kvs => obtain ⟨_, _, _, _, o, _, _, e, _⟩ := x; exact ⟨_, e⟩
  | set S n => obtain ⟨o, _, _, _, e, _⟩ := x; exact ⟨_, e⟩
  | ins C dx fs => obtain ⟨_, _, _, e, _⟩ := x; exact ⟨_, e⟩
  | own y => exact x
  | xd fs => obtain ⟨_, ⟨_, _, _, e, _⟩, _⟩ := x; exact ⟨_, e⟩
  | rng lo hi => obtain ⟨_, _, _, e⟩ := x; exact ⟨_, e⟩
  | frz ob u => obtain ⟨e, _⟩ := x; exact ⟨_, e⟩
  | tbl ps => exact ⟨_, show h.get? a = some _ from x⟩
  | met f y => exact ⟨_, show h.get? a = some _ from x⟩
  | ext φ => exact x.2.1
structure FX (P : Program) (w : World) (fr : List Addr) (H : Hp) (h0 : Heap) (B : Heap) (H' : Hp) (h : Heap) : Prop where
  stay : B.StaysIn h
  k1 : ∀ b o, h0.get? b = some o -> b ∉ fr -> ∃ o', B.get? b = some o' /\ (H b = none -> o' = o)
  k2 : ∀ b u, H' b = some u -> ∃ o, B.get? b = some o
  fr0 : ∀ b ∈ fr, H b = none /\ ∃ o, h0.get? b = some o /\ ∀ vs, o.data ≠ .fields vs
  un : Un fr [] H H' h0 h
  hok : HOk P w H' h
theorem FX.step {P : Program} {w : World} {fr : List Addr} {H H' : Hp} {h0 B h h' : Heap} (x : FX P w fr H h0 B H' h) (k : B.StaysIn h') (u : h.UpToSlots h') : FX P w fr H h0 B H' h' := by
  have slot : ∀ b o, h0.get? b = some o -> H b = none -> b ∈ fr -> ∃ sl, h'.get? b = some { o with slots := sl } := fun b o e n hb => by
    obtain ⟨sl, e1⟩ := x.un.slot b o e n hb (by simp)
    obtain ⟨_, o2, e2, hf⟩ := x.fr0 b hb
    rw [e] at e2; cases e2
    obtain ⟨sl', e3⟩ := u b _ e1 hf
    exact ⟨sl', e3⟩
  refine ⟨k, x.k1, x.k2, x.fr0, ⟨fun b o e n hb _ => ?_, fun b o e n hb _ => slot b o e n hb, x.un.free, fun b o e _ => ?_, x.un.tups, x.un.frzs, x.un.tbls⟩, fun b v e => (x.hok b v e).stay (fun c z hc q => ?_) (fun _ q => q) fun _ _ q => q⟩
  . obtain ⟨o', e1, e2⟩ := x.k1 b o e hb
    rw [e2 n] at e1
    exact k b o e1
  . by_cases hb : b ∈ fr
    . obtain ⟨sl, e1⟩ := slot b o e (x.fr0 b hb).1 hb
      exact ⟨_, e1⟩
    . obtain ⟨o', e1, _⟩ := x.k1 b o e hb
      exact ⟨o', k b o' e1⟩
  . have t : ∃ o, B.get? c = some o := by
      rcases hc with z | z
      . rw [z]; exact x.k2 _ _ e
      . exact x.k2 _ _ z
    obtain ⟨o, eo⟩ := t
    have := x.stay c o eo
    rw [q] at this; cases this
    exact k c _ eo
section
variable {X : Cx} {pins : List (Addr × Obj)} {σ : St} {H H' : Hp} {s s' : Shared} {B : Heap}
theorem Inv.old (I : Inv X pins σ H s) {b : Addr} {o : Obj} (e : X.s₀.heap.get? b = some o) (hb : b ∉ X.fs) : b ∉ frs X.stack := fun z => by
  rcases List.mem_cons.mp (I.stkSub b z) with q | q
  . exact absurd (Nat.lt_of_lt_of_le (Heap.lt_size e) I.ok.above) (by rw [q]; exact Nat.lt_irrefl _)
  . exact hb q
theorem Inv.fr0 (I : Inv X pins σ H s) : ∀ b ∈ X.fs, X.H₀ b = none /\ ∃ o, X.s₀.heap.get? b = some o /\ ∀ vs, o.data ≠ .fields vs := fun b hb => by
  obtain ⟨_, o, ho, hd⟩ := I.ok.funs.mem hb
  exact ⟨I.ok.frf b hb, o, ho, hd⟩
theorem Inv.one (I : Inv X pins σ H s) (hex : X.ex = []) {b : Addr} {o : Obj} (e : X.s₀.heap.get? b = some o) (hb : b ∉ X.fs) : ∃ o', s.heap.get? b = some o' /\ (X.H₀ b = none -> o' = o /\ H b = none) := by
  by_cases n : X.H₀ b = none
  . exact ⟨o, I.base.keep b o e n hb (by rw [hex]; simp), fun _ => ⟨rfl, I.base.free b o e n (by rw [hex]; simp)⟩⟩
  . obtain ⟨o', e1⟩ := I.base.there b o e (by rw [hex]; simp)
    exact ⟨o', e1, fun z => absurd z n⟩
theorem Inv.fx (I : Inv X pins σ H s) (hex : X.ex = []) : FX X.prog X.w X.fs X.H₀ X.s₀.heap (PySem.W.hideAll s.heap (frs X.stack)) H s.heap := by
  refine ⟨fun b o q => PySem.W.of_hideAll _ q, fun b o e hb => ?_, fun b u e => ?_, I.fr0, hex ▸ I.base, I.hok⟩
  . obtain ⟨o', e1, e2⟩ := I.one hex e hb
    exact ⟨o', PySem.W.hideAll_get _ e1 (I.old e hb), fun n => (e2 n).1⟩
  . obtain ⟨o, eo⟩ := (I.hok b u e).has
    exact ⟨o, PySem.W.hideAll_get _ eo fun z => by have := I.stkFree b z; rw [e] at this; cases this⟩
theorem Inv.fxOn (I : Inv X pins σ H s) (hex : X.ex = []) (os : s'.os = s.os) (bare : AllBare s'.gens) (x : FX X.prog X.w (frs X.stack) H s.heap B H' s'.heap) : FX X.prog X.w X.fs X.H₀ X.s₀.heap B H' s'.heap := by
  have J : Inv X pins σ H' s' := I.call' (ch := []) os x.un x.hok bare fun b z => absurd z (by simp)
  refine ⟨x.stay, fun b o e hb => ?_, x.k2, I.fr0, hex ▸ J.base, x.hok⟩
  obtain ⟨o1, e1, n1⟩ := I.one hex e hb
  obtain ⟨o', e2, n2⟩ := x.k1 b o1 e1 (I.old e hb)
  exact ⟨o', e2, fun n => (n2 (n1 n).2).trans (n1 n).1⟩
end
def CXE (P : Program) (w : World) : CXT := fun outer H s E e s' => ∃ (x C : Addr) (a0 : Value) (B : Heap) (H' : Hp), e = .ref x /\ s'.os = s.os /\ AllBare s'.gens /\ Heap.FlyingW B outer x (.ref C) a0 s'.heap /\ FX P w (frs outer) H s.heap B H' s'.heap /\ E (.ref C) none H'
abbrev VE : List Value := [.type "ValueError", .type "Exception", .type "BaseException", .type "object"]
def V3 (K : PySem.W.Frag) (C : Addr) : Prop := PySem.W.excIn K C VE "ValueError.__new__" = true
def cA (K : PySem.W.Frag) (x : Str) : Addr := match PySem.W.nsIn K mainGlobals x with
  | some (some (.ref C)) => C
  | _ => 0
theorem Yv {K : PySem.W.Frag} {x : Str} {C : Addr} (e : PySem.W.nsIn K mainGlobals x = some (some (.ref C))) : cA K x = C := by
  unfold cA
  rw [e]
def Aku (h : Heap) (C : Addr) : Prop := ∃ bm N nm q bs hdct sn sub ab col dd k0 k1 k2 k3 k5 mN, h.get? C = some (excClassObj nm q C N bs bm hdct sn sub ab col dd k0 k1 k2 k3 k5 "ValueError.__new__") /\ h.Ns N mN /\ mN "__init__" = none /\ OwnTail h VE bm
theorem V3.obj {K : PySem.W.Frag} {C : Addr} {h : Heap} (q : V3 K C) (X : K.In h) : Aku h C := by
  unfold V3 PySem.W.excIn at q
  cases e : K.lookup C with
  | none => rw [e] at q; cases q
  | some ob =>
    rw [e] at q
    have eX := X _ _ e
    split at q
    . rename_i dd cd sl z
      cases z
      split at q
      . rename_i C1 bm a0 a1 a2 a3 n a5 hm hs
        rw [Bool.and_eq_true, Bool.and_eq_true, Bool.and_eq_true, Bool.and_eq_true, Bool.and_eq_true] at q
        obtain ⟨⟨⟨⟨⟨z1, z2⟩, z3⟩, z4⟩, z5⟩, z6⟩ := q
        have y1 : C1 = C := by simpa using z1
        have y2 : n = "ValueError.__new__" := by simpa using z2
        have y3 : cd.hasDel = false := by simpa using z3
        have y6 : PySem.W.nsIn K cd.ns "__init__" = some none := by simpa using z6
        obtain ⟨c1, c2, c3, c4, c5, c6, c7, c8, c9, c10, c11⟩ := cd
        have hl : sl = #[a0, a1, a2, a3, some (.builtin n), a5] := by
          cases sl
          exact congrArg Array.mk hs
        dsimp only at hm y3 y6 z5
        rw [hl, hm, y1, y2, y3] at eX
        exact ⟨bm, c4, c1, c5, c2, c6, c7, c8, c9, c10, dd, a0, a1, a2, a3, a5, _, eX, Heap.Ns.of_isNs (PySem.W.isNs_of_in X z5), PySem.W.nsMap_none_of_in X z5 y6, PySem.W.tail_of_in X z4⟩
      . cases q
    . cases q
section
variable {P : Program} {w : World} {K : PySem.W.Frag} {mg : Str -> Option Value} {base : Heap} {N : List Str} {qual : Str} {scope : Scope} {f : Addr} {cd : Value} {A : Around} {outer : List Env} {s0 : Shared} {H0 : Hp} {E : XK}
theorem Ai5 : Passes (CXE P w) (Rq (CXE P w) P w K mg base N qual scope f cd A outer s0 H0 E) E := by
  intro pins σ H s e s' I h
  obtain ⟨x, C, a0, B, H', rfl, os, bare, fl, fx, q⟩ := h
  show wpAny _ _ (leaving _ (.ref x)) _ _ s'
  refine wpAny_leaves_onW I.ok.frames rfl fl fun h' fl' up => ?_
  exact ⟨x, C, a0, B, H', rfl, os.trans I.os, bare, fl', (I.fxOn rfl os bare fx).step fl'.1 up, q⟩
def Aae (C : Addr) (E : XK) (t : TA) : TS := fun _ σ H => t σ H fun vs H1 => vs.length <= sizeLine /\ E (.ref C) none H1
theorem Em {C : Addr} {x : Str} {np cpos pos : Pos} {e : Expr} {es : List Expr} {t : TA} (hq : V3 K C) (hm : mg x = some (.ref C))
    (ha : PA (Rq (CXE P w) P w K mg base N qual scope f cd A outer s0 H0 E) (e :: es) t) (hg : Gl (Rq (CXE P w) P w K mg base N qual scope f cd A outer s0 H0 E) x := by rfl) (hdb : (x == ("__debug__" : Str)) = false := by decide)
    (he : starEach (e :: es) (envOfC qual scope s0.heap.objs.size f cd) = (false, eval e (envOfC qual scope s0.heap.objs.size f cd)) :: starEach es (envOfC qual scope s0.heap.objs.size f cd) := by rfl)
    (hpl : (backTo cpos (starEach es (envOfC qual scope s0.heap.objs.size f cd))).any (·.1) = false := by rfl) :
    PS (Rq (CXE P w) P w K mg base N qual scope f cd A outer s0 H0 E) (.Raise (some (.Call (.Name x np) (e :: es) [] cpos)) none pos) (Aae C E t) := by
  intro pins s σ H D I h
  obtain ⟨bm, N', nm, q, bs, hdct, sn, sub, ab, col, dd, k0, k1, k2, k3, k5, mN, hC, hN, hni, TL⟩ := hq.obj I.mod.kin
  refine wpAny_Raise_call_subT (nm := nm) (q := q) (C := C) (N := N') (bs := bs) (bm := bm) (hdct := hdct) (sn := sn) (sub := sub) (ab := ab) (col := col) (dd := dd) (k0 := k0) (k1 := k1) (k2 := k2) (k3 := k3) (k5 := k5) PySem.F.excBase_ValueError (TL.hasType (by decide)) (I.ok.hd rfl) (by
    show (backTo cpos (starEach (e :: es) (envOfC qual scope s0.heap.objs.size f cd))).any (·.1) = false
    rw [he]
    show (false || (backTo cpos (starEach es _)).any (·.1)) = false
    rw [hpl]; rfl) hni (Qu I hg hm ⟨rfl, ?_⟩ hdb)
  have ha' := ha cpos pins s σ H _ I h
  show wpAny _ _ (evalArgs (.ref C) true (backTo cpos (starEach (e :: es) (envOfC qual scope s0.heap.objs.size f cd))) []) _ _ s
  have ha2 : wpAny (model P w) (A.deeper (envOfC qual scope s0.heap.objs.size f cd)) (spliced (backTo cpos (starEach (e :: es) (envOfC qual scope s0.heap.objs.size f cd)))) _ _ s := ha'
  rw [he] at ha2 ⊢
  refine Calls.evalArgs_plain (thn ha2 fun us s2 ⟨vs, H2, I2, r, z, q2⟩ => ⟨rfl, by rw [<- r.length]; exact z, I2.bk _ _ hC, hN.keeps I2.bk, TL.keeps I2.bk, fun h' x' hm' => ?_⟩)
  show wpAny _ _ (leaving _ (.ref x')) _ _ _
  refine wpAny_leaves_madeW (base := PySem.W.hideAll s2.heap (frs (envOfC qual scope s0.heap.objs.size f cd :: outer))) (h := s2.heap) I2.ok.frames rfl (fun b o q => PySem.W.of_hideAll _ q) (PySem.W.funFrames_hide I2.stack fun env he b hb => List.mem_filterMap.mpr ⟨env, he, hb⟩) hm' fun h'' t' fl _ _ up => ?_
  exact ⟨x', C, .ref t', _, H2, rfl, I2.os, I2.bare, fl, (I2.fx rfl).step fl.1 ((Heap.UpToSlots.of_keeps hm'.keeps).trans up), q2⟩
end
theorem Eb {C : Addr} {E : XK} {t : TA} {D : Ends} {σ : St} {H : Hp} : Aae C E t D σ H = t σ H (fun vs H1 => vs.length <= sizeLine /\ E (.ref C) none H1) := rfl
theorem PS.nox {X : Cx} {st : Stmt} {t : TS} (h : PS X.nox st t) : PS X st t := fun pins s σ H D I hw =>
  wpAny_mono (h pins s σ H D (I.wish _) hw) (fun _ _ q => q.unwish) fun _ _ z => False.elim z
theorem Fun.okE {P : Program} {w : World} {K : PySem.W.Frag} {mg : Str -> Option Value} {base : Heap} {x qual : Str} {st : Stmt} {f : Addr} {fd : FuncData} {N ps : List Str} {k : Nat} {sp : Sp} (F : Fun K x qual st f fd) (S : Ao N ps (Ag st)) (len : ∀ vs H Q E, sp vs H Q E -> vs.length = ps.length)
    (hbody : ∀ (cdv : Value) (A : Around) (outer : List Env) (s : Shared) (H : Hp) (vs : List V) (Q : VK) (E : XK), Kg k (A.deeper (envOfC qual (Ag st) s.heap.objs.size f cdv)) -> sp vs H Q E ->
      ∃ t, PSs (Rq (CXE P w) P w K mg base N qual (Ag st) f cdv A outer s H E) (Jk st) t /\ t { nx := fun _ H' => Q .non H', rt := Q } (start N vs) H) : Rx P w K mg base (CXE P w) (k + 1) f fd ps sp := by
  obtain ⟨oc, od, kV, doc, pm, an, cdv, ct, osl, rfl, lk, hcd⟩ := F.ex
  exact Ah2 lk hcd S len fun A outer s H vs Q E hr hsp => hbody cdv A outer s H vs Q E hr hsp
def Nq (P : Program) (w : World) (K : PySem.W.Frag) (mg : Str -> Option Value) (base : Heap) (k : Nat) (x : Str) (ps : List Str) (sp : Sp) : Prop :=
  ∃ f fd, Rx P w K mg base (CXE P w) k f fd ps sp /\ mg x = some (.ref f) /\ PySem.W.keepIn K (.ref f) = true /\ Binds K fd ps []
theorem Df.calE {P : Program} {w : World} {K : PySem.W.Frag} {mg : Str -> Option Value} {base : Heap} {k : Nat} {x : Str} {st : Stmt} {ps : List Str} {f : Addr} {fd : FuncData} {sp : Sp}
    (F : Df K mg x st ps f fd) (G : Rx P w K mg base (CXE P w) k f fd ps sp) : Nq P w K mg base k x ps sp := ⟨f, fd, G, F.at', F.fn.kp, F.bd⟩
theorem Nq.calm {P : Program} {w : World} {K : PySem.W.Frag} {mg : Str -> Option Value} {base : Heap} {k : Nat} {x : Str} {ps : List Str} {sp sp' : Sp}
    (C : Nq P w K mg base k x ps sp) (h : ∀ vs H Q E, sp' vs H Q E -> sp vs H Q E0) : Cal P w K mg base k x ps sp' := by
  obtain ⟨f, fd, G, a, b, c⟩ := C
  refine ⟨f, fd, ⟨fun vs H Q E z => G.len vs H Q E0 (h _ _ _ _ z), fun A outer s H args us vs Q E hr he hb hv hs => ?_⟩, a, b, c⟩
  refine codeAny_mono (G.run A outer s H args us vs Q E0 hr he hb hv (h _ _ _ _ hs)) fun r s' q => ?_
  cases r with
  | ok fl => cases fl <;> exact q
  | error e =>
    obtain ⟨_, _, _, _, _, _, _, _, _, _, z⟩ := q
    exact z.elim
section
variable {P : Program} {w : World} {K : PySem.W.Frag} {mg : Str -> Option Value} {base : Heap} {N : List Str} {qual : Str} {scope : Scope} {f : Addr} {cd : Value} {A : Around} {outer : List Env} {s0 : Shared} {H0 : Hp} {E : XK}
theorem Dk {k : Nat} {x : Str} {ps : List Str} {sp : Sp} {p pos : Pos} {e : Expr} {es : List Expr} {t : TA}
    (C : Nq P w K mg base k x ps sp) (hr : Kg k (A.deeper (envOfC qual scope s0.heap.objs.size f cd))) (ha : PA (Rq (CXE P w) P w K mg base N qual scope f cd A outer s0 H0 E) (e :: es) t) (hg : Gl (Rq (CXE P w) P w K mg base N qual scope f cd A outer s0 H0 E) x := by rfl) (hdb : (x == ("__debug__" : Str)) = false := by decide)
    (he : starEach (e :: es) (envOfC qual scope s0.heap.objs.size f cd) = (false, eval e (envOfC qual scope s0.heap.objs.size f cd)) :: starEach es (envOfC qual scope s0.heap.objs.size f cd) := by rfl)
    (hpl : (backTo pos (starEach es (envOfC qual scope s0.heap.objs.size f cd))).any (·.1) = false := by rfl) :
    PE (Rq (CXE P w) P w K mg base N qual scope f cd A outer s0 H0 E) (.Call (.Name x p) (e :: es) [] pos) (Wj sp [] E t) := by
  obtain ⟨f', fd, G, a, b, c⟩ := C
  exact Acg (X := Rq (CXE P w) P w K mg base N qual scope f cd A outer s0 H0 E) G hr hg a b c .nil Ai5 ha hdb he hpl
end
end L2
namespace L2
open PySem PySem.Spec PyProof.Rows
set_option maxRecDepth 100000
abbrev Cx.caught (X : Cx) (x : Addr) (oe : Obj) : Cx := { X with A := X.A.mark (some (.ref x)), calm := false, pn := (x, oe) :: X.pn, xe := fun _ _ => False }
section
variable {X : Cx} {pins : List (Addr × Obj)} {σ : St} {H : Hp} {s : Shared} {x : Addr} {oe : Obj}
theorem Cx.Ok.caught (ok : X.Ok) (x : Addr) (oe : Obj) : (X.caught x oe).Ok :=
  ⟨ok.mod, ok.kind, ok.glob, ok.blt, ok.above, ok.inj, ok.has, ok.cab, (fun z => nomatch z), ok.frames, ok.stk, ok.exf, ok.bs, ok.bsz, ok.noex, ok.exfs, ok.funs, ok.frf⟩
theorem Inv.caught (I : Inv X pins σ H s) (e : s.heap.get? x = some oe) (n : H x = none) (l : x ≠ X.env.locals) (f : x ∉ X.fs) (d : ∀ v, oe.data ≠ .cell v) : Inv (X.caught x oe) pins σ H s :=
  ⟨I.ok.caught x oe, I.os, I.bare, I.base, I.loc, I.cell, I.free, I.freeC, fun p hp => (List.mem_cons.mp hp).elim (fun z => by rw [z]; exact ⟨e, n, l, f, d⟩) (I.pin p), I.hok, I.len⟩
theorem Inv.uncaught (ok : X.Ok) (I : Inv (X.caught x oe) pins σ H s) : Inv X pins σ H s :=
  ⟨ok, I.os, I.bare, I.base, I.loc, I.cell, I.free, I.freeC, fun p hp => I.pin p (List.mem_cons_of_mem _ hp), I.hok, I.len⟩
theorem Inv.gone {i : Nat} {n : Str} {m : Str -> Option Value} {v : Option Value} {h' : Heap} {t' : Nat} (I : Inv X pins σ H s) (hN : X.N.Nodup) (hi : X.N[i]? = some n)
    (hl : ∀ (i : Nat) (x : Str) (v : V), X.N[i]? = some x -> σ[i]? = some (some v) -> Vis X.env.scope x -> ∃ u, RelV v u /\ Look X.env s.heap m x u) (hn : s.heap.Ns X.env.locals m)
    (hn' : h'.Ns X.env.locals (fun x => if x = n then v else m x)) (hs : Heap.SameBut X.env.locals s.heap h') : Inv X pins (σ.set i none) H { s with heap := h', toks := t' } := by
  obtain ⟨oL, _, _, hoL, _⟩ := id hn
  have cne := I.cne
  have up : ∀ {b : Addr} {o : Obj}, X.s₀.heap.get? b = some o -> b ≠ X.env.locals := fun e => Nat.ne_of_lt (Nat.lt_of_lt_of_le (Heap.lt_size e) I.ok.above)
  refine ⟨I.ok, I.os, I.bare, ⟨fun b o e n hb hx => (hs.2 b (up e)).trans (I.base.keep b o e n hb hx), fun b o e n hb hx => ?_, I.base.free, fun b o e hx => ?_, I.base.tups, I.base.frzs, I.base.tbls⟩, ⟨_, hn', fun j y v' e1 e2 e3 => ?_⟩, fun y c e => ?_, I.free, I.freeC, fun p hp => ?_, fun b ob e => ?_, by simpa using I.len⟩
  . obtain ⟨sl, e1⟩ := I.base.slot b o e n hb hx
    exact ⟨sl, (hs.2 b (up e)).trans e1⟩
  . obtain ⟨o', e1⟩ := I.base.there b o e hx
    exact ⟨o', (hs.2 b (up e)).trans e1⟩
  . have hj : j ≠ i := fun z => by
      subst z
      rw [List.getElem?_set] at e2
      simp at e2
    rw [List.getElem?_set_ne (Ne.symm hj)] at e2
    obtain ⟨u', r', q⟩ := hl j y v' e1 e2 e3
    refine ⟨u', r', ?_⟩
    rcases q with ⟨k, e⟩ | ⟨k, c, e, z⟩
    . refine .inl ⟨k, ?_⟩
      have : y ≠ n := fun e => hj (Ub hN e1 (e ▸ hi))
      simp [this, e]
    . exact .inr ⟨k, c, e, z.sameBut hs (cne y c e)⟩
  . obtain ⟨w', z⟩ := I.cell y c e
    exact ⟨w', z.sameBut hs (cne y c e)⟩
  . obtain ⟨e, n, ne, nf, d⟩ := I.pin p hp
    exact ⟨(hs.2 p.1 ne).trans e, n, ne, nf, d⟩
  . refine (I.hok b ob e).stay (fun c w' hc q => (hs.2 c ?_).trans q) (fun _ q => q) fun _ _ q => q
    rintro rfl
    rcases hc with rfl | hc
    . rw [I.free] at e; cases e
    . rw [I.free] at hc; cases hc
end
def X5 (X : Cx) (st : Stmt) (e : Expr) (g : V -> St -> St) : Prop := ∀ (pins : List (Addr × Obj)) (s : Shared) (σ : St) (H : Hp) (E : Value -> Shared -> Prop) (Q : VK) (R : Flow -> Shared -> Prop), Inv X pins σ H s ->
  wpAny (model X.prog X.w) X.A (eval e X.env) (EP X pins σ Q) E s -> (∀ v H1 s1, Q v H1 -> Inv X pins (g v σ) H1 s1 -> R .next s1) -> wpAny (model X.prog X.w) X.A (exec st X.env) R E s
theorem Hj {X : Cx} {e : Expr} {pos : Pos} (hs : swapsWith e none pos.line X.env = pure false := by rfl) : X5 X (.Expr e pos) e (fun _ σ => σ) := by
  intro pins s σ H E Q R I h k
  exact wpAny_Expr_any (thn h fun v s1 ⟨y, H1, I1, _, q1⟩ => k y H1 s1 q1 I1) I.quiet hs
def Ah8 (sp : Sp) (C : Addr) (g : V -> St -> St) (i : Nat) (ta : TA) (ts : Addr -> Obj -> TS) : TS := fun D σ H => ta σ H fun vs H1 => sp vs H1 (fun v H2 => D.nx (g v σ) H2)
  (fun c _ H2 => c = .ref C /\ ∀ x oe, oe.cls = .ref C -> ts x oe { nx := fun σ' H' => D.nx (σ'.set i none) H', rt := D.rt, bk := fun σ' H' => D.bk (σ'.set i none) H', ct := fun σ' H' => D.ct (σ'.set i none) H' } (σ.set i (some (.ref x))) H2)
def Aky (sp : Sp) (C : Addr) (g : V -> St -> St) (ta : TA) (ts : Addr -> Obj -> TS) : TS := fun D σ H => ta σ H fun vs H1 => sp vs H1 (fun v H2 => D.nx (g v σ) H2)
  (fun c _ H2 => c = .ref C /\ ∀ x oe, oe.cls = .ref C -> ts x oe D σ H2)
theorem Dy {sp : Sp} {C : Addr} {g : V -> St -> St} {i : Nat} {ta : TA} {ts : Addr -> Obj -> TS} {D : Ends} {σ : St} {H : Hp} : Ah8 sp C g i ta ts D σ H = ta σ H (fun vs H1 => sp vs H1 (fun v H2 => D.nx (g v σ) H2)
  (fun c _ H2 => c = .ref C /\ ∀ x oe, oe.cls = .ref C -> ts x oe { nx := fun σ' H' => D.nx (σ'.set i none) H', rt := D.rt, bk := fun σ' H' => D.bk (σ'.set i none) H', ct := fun σ' H' => D.ct (σ'.set i none) H' } (σ.set i (some (.ref x))) H2)) := rfl
theorem Lr {sp : Sp} {C : Addr} {g : V -> St -> St} {ta : TA} {ts : Addr -> Obj -> TS} {D : Ends} {σ : St} {H : Hp} : Aky sp C g ta ts D σ H = ta σ H (fun vs H1 => sp vs H1 (fun v H2 => D.nx (g v σ) H2)
  (fun c _ H2 => c = .ref C /\ ∀ x oe, oe.cls = .ref C -> ts x oe D σ H2)) := rfl
section
variable {X : Cx} {pins : List (Addr × Obj)} {σ : St} {H : Hp} {s s' : Shared} {C : Addr} {e : Value} {cx n : Str} {np pos hpos : Pos} {b0 : Stmt} {suite : List Stmt} {D : Ends} {i : Nat} {ts : Addr -> Obj -> TS}
theorem looked {R : Flow -> Shared -> Prop} {E2 : Hp -> Prop} {nm : Option Str} {body : List Stmt} (I : Inv X pins σ H s) (h : CXE X.prog X.w X.stack H s (fun c _ H2 => c = .ref C /\ E2 H2) e s') (hq : V3 X.K C) (hm : X.mg cx = some (.ref C)) (hst : X.stack = X.env :: X.outer) (hf : X.env.frame = some X.env.locals) (hg : Gl X cx) (hdb : (cx == ("__debug__" : Str)) = false)
    (k : ∀ x oe H' h6 (g' : Array GenState) d' t' o', oe.cls = .ref C -> E2 H' -> Inv (X.caught x oe) pins σ H' ⟨h6, g', d', t', o'⟩ -> ∀ B a0 h5, Heap.FlyingW B X.stack x (.ref C) a0 h5 -> (∀ h7, Heap.FlyingW B X.stack x (.ref C) a0 h7 -> h5.UpToSlots h7 -> ∃ oe', oe'.cls = .ref C /\ Inv (X.caught x oe') pins σ H' ⟨h7, g', d', t', o'⟩) ->
      codeAny (model X.prog X.w) (X.A.mark (some (.ref x))) (.handlers (.ref x) [.ExceptHandler none nm body hpos] X.env) (fun r s₂ => match r with
          | .ok f => (match nm with
            | none => R f s₂
            | some n => wpAny (model X.prog X.w) X.A (do bindName X.env n .none; unbindBehindTheSuite X.env n hpos) (fun _ s₃ => R f s₃) X.xe s₂)
          | .error y => cameBackBy (model X.prog X.w) X.A X.env X.xe y s₂) ⟨h5, g', d', t', o'⟩) :
    wpAny (model X.prog X.w) X.A (noteFrame e X.env) (fun _ s₂ => wpAny (model X.prog X.w) X.A (setFlight e none) (fun _ s₃ => wpAny (model X.prog X.w) X.A (handleBy e X.env [.ExceptHandler (some (.Name cx np)) nm body hpos]) R X.xe s₃) X.xe s₂) X.xe s' := by
  obtain ⟨x, C', a0, B, H', rfl, os, bare, fl, fx, ⟨eC, q⟩⟩ := h
  cases eC
  obtain ⟨hh, gg, dd, tt, oo⟩ := s'
  have cau : ∀ h7, Heap.FlyingW B X.stack x (.ref C) a0 h7 -> FX X.prog X.w (frs X.stack) H s.heap B H' h7 -> ∃ oe', oe'.cls = .ref C /\ Inv (X.caught x oe') pins σ H' ⟨h7, gg, dd, tt, oo⟩ := fun h7 fl7 fx7 => by
    have J : Inv X pins σ H' ⟨h7, gg, dd, tt, oo⟩ := I.call' (s' := ⟨h7, gg, dd, tt, oo⟩) (ch := []) os fx7.un fx7.hok bare fun b z => absurd z (by simp)
    obtain ⟨oe, vs, hoe, hc, hd, _⟩ := fl7.first
    have hx : x ∉ frs X.stack := fun z => by
      obtain ⟨_, o, ho, hnf⟩ := fl7.2.2.1.mem z
      rw [hoe] at ho; cases ho
      exact hnf vs hd
    refine ⟨oe, hc, J.caught hoe ?_ ?_ ?_ fun v z => by rw [hd] at z; cases z⟩
    . cases z : H' x with
      | none => rfl
      | some u =>
        obtain ⟨o, eo⟩ := fx7.k2 x u z
        rw [fl7.2.1] at eo; cases eo
    . intro z
      exact hx (by rw [hst, z]; unfold frs; rw [List.filterMap_cons, hf]; exact List.mem_cons_self)
    . intro z
      exact hx (by rw [hst]; unfold frs; rw [List.filterMap_cons, hf]; exact List.mem_cons_of_mem _ z)
  have fl0 := fl
  rw [hst] at fl0
  refine wpAny_looks_onW (hst ▸ I.ok.frames) hf fl0 fun h4 held4 up4 => ?_
  refine wpAny_landsW held4 fun h5 fl5 up5 => ?_
  have fx5 := (fx.step held4.1 up4).step fl5.1 up5
  rw [<- hst] at fl5
  obtain ⟨oe5, hc5, J5⟩ := cau h5 fl5 fx5
  refine wpAny_handleBy_cons (codeAny_handlers_test (Qu J5 hg hm ?_ hdb)) (by intro q; cases q)
  obtain ⟨bm, N', nm', q', bs, hdct, sn, sub, ab, col, dd', k0, k1, k2, k3, k5, mN, hC, hN, hni, TL⟩ := hq.obj J5.kIn
  obtain ⟨ob, hob, hobc⟩ := fl5.there
  refine wpAny_excMatches_sub_self hC hob hobc (TL.hasType (by decide)) ?_
  exact k x oe5 H' h5 gg dd tt oo hc5 q J5 B a0 h5 fl5 fun h7 fl7 up7 => cau h7 fl7 (fx5.step fl7.1 up7)
theorem SP.uncaught {x : Addr} {oe : Obj} (ok : X.Ok) {f : Flow} (h : SP (X.caught x oe) pins D f s) : SP X pins D f s := by
  cases f with
  | next => obtain ⟨σ', H', I, q⟩ := h; exact ⟨σ', H', I.uncaught ok, q⟩
  | brk => obtain ⟨σ', H', I, q⟩ := h; exact ⟨σ', H', I.uncaught ok, q⟩
  | cont => obtain ⟨σ', H', I, q⟩ := h; exact ⟨σ', H', I.uncaught ok, q⟩
  | ret u => obtain ⟨v, σ', H', I, r, q⟩ := h; exact ⟨v, σ', H', I.uncaught ok, r, q⟩
theorem tried {k : Nat} {f : Str} {ps : List Str} {sp : Sp} {a : Expr} {as : List Expr} {ta : TA} {E : XK} {Q : VK} {XE : Value -> Shared -> Prop} {p cpos : Pos} (Ca : Nq X.prog X.w X.K X.mg X.base k f ps sp) (hr : Kg k X.A) (ha : PA X.nox (a :: as) ta) (I : Inv X pins σ H s)
    (h : ta σ H fun vs H1 => sp vs H1 Q E) (hx : ∀ s1 H1 e s', Inv X pins σ H1 s1 -> CXE X.prog X.w X.stack H1 s1 E e s' -> XE e s') (hg : Gl X f) (hdb : (f == ("__debug__" : Str)) = false) (he : starEach (a :: as) X.env = (false, eval a X.env) :: starEach as X.env) (hpl : (backTo cpos (starEach as X.env)).any (·.1) = false) :
    wpAny (model X.prog X.w) X.A (eval (.Call (.Name f p) (a :: as) [] cpos) X.env) (EP X pins σ Q) XE s := by
  obtain ⟨f', fd, G, hm, hk, hb⟩ := Ca
  refine wpAny_Call_Name_kw (Qu I hg hm ?_ hdb)
  refine PySem.W.callWith_K (h₀ := X.base) I.ok.mod.kin hk (wpAny_mono (ha cpos pins s σ H _ (I.wish _) h) (fun us s1 ⟨vs, H1, I1, r, q⟩ => ⟨I1.unwish.kIn, ?_⟩) fun _ _ z => False.elim z) he hpl
  have I1 : Inv X pins σ H1 s1 := I1.unwish
  have hl : us.length = ps.length := by rw [<- r.length]; exact G.len _ _ _ _ q
  have hb' := hb s1 us I1.kIn (by rw [List.append_nil]; exact hl)
  rw [List.append_nil] at hb'
  refine wpAny_call (codeAny_mono (G.run X.A X.stack s1 H1 ⟨us, []⟩ us vs Q E hr I1.env0 hb' r q) fun r s' hq => ?_)
  cases r with
  | error e => exact hx s1 H1 e s' I1 hq
  | ok fl =>
    cases fl with
    | ret u => exact I1.after hq
    | next => exact False.elim hq
    | brk => exact False.elim hq
    | cont => exact False.elim hq
end
end L2
namespace L2
open PySem PySem.Spec PyProof.Rows
set_option maxRecDepth 100000
structure Zm (K : PySem.W.Frag) (C : Addr) : Prop where
  ga : PySem.W.findIn K (.ref C) "__getattribute__" = some (some (.builtin "BaseException.__getattribute__"))
  gn : PySem.W.findIn K (.ref C) "__getattr__" = some none
  cl : PySem.W.findIn K (.ref C) "__class__" = some (some (.builtin "object.__class__"))
  ob : PySem.W.mroIn K C (.type "object") = some true
  be : PySem.W.mroIn K C (.type "BaseException") = some true
theorem Zm.is {K : PySem.W.Frag} {C : Addr} (Z : Zm K C) : (PySem.W.clsIn K C).isSome = true := by
  obtain ⟨cd, a, _⟩ := Option.bind_eq_some_iff.mp Z.ob
  rw [a]; rfl
section
variable {prog : Program} {w : World} {A : Around} {E : Value -> Shared -> Prop} {K : PySem.W.Frag} {x C : Addr} {oe : Obj} {h : Heap} {g : Array GenState} {d : Drawn} {t : Nat} {os : OsState}
theorem Ae2 {M : Model} (hx : h.get? x = some oe) (hc : oe.cls = .ref C) : PySem.W.Looks M h (typeOf (.ref x)) (.ref C) := hc ▸ (PySem.W.Looks.ld hx).andThen .now
theorem Adp {R : Result -> Shared -> Prop} (X : K.In h) (Z : Zm K C) (hx : h.get? x = some oe) (hc : oe.cls = .ref C) (q : R (.ok (.ret (.ref C))) ⟨h, g, d, t, os⟩) :
    codeAny (model prog w) A (.call (.builtin "getset_descriptor.__get__") ⟨[.builtin "object.__class__", .ref x, .ref C], []⟩) R ⟨h, g, d, t, os⟩ := by
  have l0 := Ae2 (M := model prog w) hx hc
  have l1 := PySem.W.looks_mroIn (M := model prog w) X Z.ob
  have tg : (⟨h, g, d, t, os⟩ : Shared).TypeIs (.builtin "object.__class__") "getset_descriptor" := PySem.W.KF.type_class
  have ow : (".".intercalate ("object.__class__".cutAt '.').dropLast) = "object" := by decide +kernel
  refine codeAny_call_builtin PySem.F.slot_gs_get.plain PySem.F.entry_gs_get (PySem.F.slot_gs_get.check _ _ _ _ _ _ _ _ tg (PySem.F.args_gs_get _ _ _) ?_)
  repeat (any_goals (first | assumption | (with_reducible refine wpAny_loadPart_at hx ?_; rw [hc]) | (rw [ow]; with_reducible refine l1.at ?_) | wp_step))
  refine ⟨Code.quiet_builtin _ (by decide +kernel), codeAny_builtin PySem.W.KF.entry_class ?_⟩
  unfold Builtin.«object.__class__» shownTypeOf
  repeat (any_goals (first | assumption | (with_reducible refine wpAny_loadPart_at hx ?_; rw [hc]) | wp_step))
theorem Ac7 {tk : Tok} {Q : Fin -> Shared -> Prop} (X : K.In h) (Z : Zm K C) (hx : h.get? x = some oe) (hc : oe.cls = .ref C) (q : Q (.done (.ret (.ref C))) ⟨h, g, d, t, os⟩) :
    wpAny (model prog w) A (Builtin.«object.__getattribute__» ⟨[.ref x, .str "__class__" tk], []⟩) Q E ⟨h, g, d, t, os⟩ := by
  have tg : (⟨h, g, d, t, os⟩ : Shared).TypeIs (.builtin "object.__class__") "getset_descriptor" := PySem.W.KF.type_class
  have l2 := PySem.W.looks_findIn (M := model prog w) X Z.cl
  have f5 := PySem.W.KF.type_class
  have f6 := PySem.F.slot_gs_get.lookup
  have f7 := PySem.F.slot_gs_set.lookup
  repeat (any_goals (first | assumption | (with_reducible refine wpAny_loadPart_at hx ?_; rw [hc]) | with_reducible refine l2.at ?_ | wp_step))
  refine Adp X Z hx hc ?_
  repeat (any_goals (first | assumption | wp_step))
theorem Ac2 {M : Model} {nv : Value} {Q : Unit -> Shared -> Prop} (X : K.In h) (Z : Zm K C) (hx : h.get? x = some oe) (hc : oe.cls = .ref C) (q : Q () ⟨h, g, d, t, os⟩) : wpAny M A (checkBuiltinCall "BaseException.__getattribute__" ⟨[.ref x, nv], []⟩) Q E ⟨h, g, d, t, os⟩ := by
  have k1 : builtinKind "BaseException.__getattribute__" = some .slot := by decide +kernel
  have k2 : splitId "BaseException.__getattribute__" = some ("BaseException", "__getattribute__") := by decide +kernel
  have l1 := PySem.W.looks_mroIn (M := M) X Z.be
  have ar := PySem.F.args_bexc_ga (.ref x) nv
  simp only [checkBuiltinCall, k1, k2]
  refine wpAny_bind ?_
  unfold isInstance
  repeat (any_goals (first | assumption | (with_reducible refine wpAny_loadPart_at hx ?_; rw [hc]) | with_reducible refine l1.at ?_ | wp_step))
theorem Afz {tk : Tok} {Q : Value -> Shared -> Prop} (X : K.In h) (Z : Zm K C) (hx : h.get? x = some oe) (hc : oe.cls = .ref C) (q : Q (.ref C) ⟨h, g, d, t, os⟩) :
    wpAny (model prog w) A (getAttrBy (.ref x) (.str "__class__" tk) false) Q E ⟨h, g, d, t, os⟩ := by
  have f3 := PySem.F.attr_ValueError.ga.bind (.ref x)
  have y0 : (false && onTheHeap (Value.builtin "BaseException.__getattribute__")) = false := rfl
  have y1 : (onTheHeap (Value.ref C) && Value.builtin "BaseException.__getattribute__" == Value.builtin "object.__getattribute__") = false := by
    rw [show (Value.builtin "BaseException.__getattribute__" == Value.builtin "object.__getattribute__") = false by decide +kernel]; rfl
  have l2 := PySem.W.looks_findIn (M := model prog w) X Z.ga
  have l3 := PySem.W.looks_findIn (M := model prog w) X Z.gn
  repeat (any_goals (first | assumption | (with_reducible refine wpAny_loadPart_at hx ?_; rw [hc]) | with_reducible refine l2.at ?_ | with_reducible refine l3.at ?_ | wp_step))
  refine codeAny_call_builtin PySem.F.attr_ValueError.ga.plain PySem.F.entry_bexc_ga (Ac2 X Z hx hc (Ac7 X Z hx hc ?_))
  repeat (any_goals (first | assumption | wp_step))
theorem Zr {Q : Option Value -> Shared -> Prop} (X : K.In h) (Z : Zm K C) (hx : h.get? x = some oe) (hc : oe.cls = .ref C) (q : Q (some (.ref C)) ⟨h, g, d, t + 1, os⟩) :
    wpAny (model prog w) A (getAttr? (.ref x) "__class__") Q E ⟨h, g, d, t, os⟩ := by
  unfold getAttr? getAttrBy?
  repeat (any_goals (first | assumption | with_reducible apply Afz X Z hx hc | wp_step))
theorem Xv (Z : Zm K C) (hc : oe.cls = .ref C) : PySem.W.KitX K (.ref x) (.ref C) (fun h => h.get? x = some oe) where
  ty := fun _ _ _ hx => Ae2 hx hc
  it := fun M h X _ => by
    obtain ⟨cd, e⟩ := Option.isSome_iff_exists.mp Z.is
    unfold PySem.W.clsIn at e
    split at e
    . rename_i c1 d1 cd1 sl1 ho
      intro A' Q' E' s' k q
      unfold isType loadHead
      exact wpAny_bind (wpAny_loadPart (k _ _ (X _ _ ho)) (wpAny_pure q))
    . cases e
  ne := fun h tp dd its n sl X htp => by
    obtain ⟨cd, e⟩ := Option.isSome_iff_exists.mp Z.is
    refine Bool.eq_false_iff.mpr fun q => ?_
    cases Value.ref.inj (beq_iff_eq.mp q)
    unfold PySem.W.clsIn at e
    split at e
    . rename_i c1 d1 cd1 sl1 ho
      cases (X _ _ ho).symm.trans htp
    . cases e
  ca := fun {_ _ _ _ _ s} X hx q => by
    obtain ⟨h, g, d, t, os⟩ := s
    exact Zr X Z hx hc q
end
theorem Rp {X : Cx} {x C : Addr} {oe : Obj} (hp : (x, oe) ∈ X.pn) (hc : oe.cls = .ref C) (Z : Zm X.K C) : Ik X (.builtin "isinstance") (fun xs H Q => ∃ b, ((∃ C2, xs = [.ref x, .ref C2] /\ PySem.W.kitOne X.K (.ref C) (.ref C2) = some b) \/ ∃ T, xs = [.ref x, .ty T] /\ PySem.W.kitOne X.K (.ref C) (.type T) = some b) /\ Q (.bl b) H) := by
  intro pins s σ H xs us Q I r h
  obtain ⟨b, h, q⟩ := h
  have hx := (I.pin (x, oe) (List.mem_append_left _ hp)).1
  rcases h with ⟨C2, rfl, e⟩ | ⟨T, rfl, e⟩
  . obtain ⟨u, c, rfl, ru, rc⟩ := vals2 r
    cases ru; cases rc
    exact PySem.W.kia_one (Xv Z hc) I.kIn hx e (fun z => nomatch z) fun tk => ⟨.bl b, H, I.tok tk, rfl, q⟩
  . obtain ⟨u, c, rfl, ru, rc⟩ := vals2 r
    cases ru; cases rc
    exact PySem.W.kia_one (Xv Z hc) I.kIn hx e (fun z => nomatch z) fun tk => ⟨.bl b, H, I.tok tk, rfl, q⟩
theorem nw {H H' : Hp} {p : Addr} {o : HO} (hp : H p = none) (e : upd H p o = H') : Same H H' /\ H' p = some o := by
  subst e
  exact ⟨Same.upd hp _, Af⟩
end L2
namespace L2
open PySem PySem.Spec PyProof.Rows
def Dl : Expr -> Bool
  | .Starred _ _ => false
  | _ => true
theorem Ji {e : Expr} {es : List Expr} {env : Env} (h : Dl e = true) : starEach (e :: es) env = (false, eval e env) :: starEach es env := by
  cases e <;> first | rfl | cases h
theorem Kl {env : Env} {pos : Pos} : ∀ {es : List Expr}, es.all Dl = true -> (backTo pos (starEach es env)).any (·.1) = false
  | [], _ => rfl
  | e :: es, h => by
    rw [List.all_cons, Bool.and_eq_true] at h
    rw [Ji h.1]
    have ih := Kl (env := env) (pos := pos) h.2
    unfold backTo at ih ⊢
    rw [List.map_cons, List.any_cons, ih]
    rfl
section
variable {X : Cx} {e : Expr} {es : List Expr} {te : TE} {t : TA} {x : Str} {p pos : Pos} {id T : String} {r : List V -> Hp -> VK -> Prop} {k : Nat} {ps : List Str} {sp : Sp}
theorem Aa (ha : PE X e te) (hr : PA X es t) (h : Dl e = true := by rfl) : PA X (e :: es) (Adu te t) := Af5 ha hr (Ji h)
theorem Dd (hc : Ik X (.builtin id) r) (hg : Gl X x) (hm : X.mg x = none) (hv : bootBuiltins x = some (.builtin id)) (ha : PA X (e :: es) t) (h1 : Dl e = true := by rfl) (h2 : es.all Dl = true := by rfl) (hn : x ≠ "__name__" := by decide) (hdb : (x == ("__debug__" : Str)) = false := by decide) :
    PE X (.Call (.Name x p) (e :: es) [] pos) (tCB r t) := Acp hc hg hm hv ha hn hdb (Ji h1) (Kl h2)
theorem Ft (hc : Ik X (.type T) r) (hg : Gl X x) (hm : X.mg x = none) (hv : bootBuiltins x = some (.type T)) (ha : PA X (e :: es) t) (h1 : Dl e = true := by rfl) (h2 : es.all Dl = true := by rfl) (hn : x ≠ "__name__" := by decide) (hdb : (x == ("__debug__" : Str)) = false := by decide) :
    PE X (.Call (.Name x p) (e :: es) [] pos) (tCB r t) := Abs hc hg hm hv ha hn hdb (Ji h1) (Kl h2)
theorem Ai (C : Cal X.prog X.w X.K X.mg X.base k x ps sp) (hr : Kg k X.A) (ha : PA X (e :: es) t) (h1 : Dl e = true := by rfl) (h2 : es.all Dl = true := by rfl) (hg : Gl X x := by rfl) (hdb : (x == ("__debug__" : Str)) = false := by decide) :
    PE X (.Call (.Name x p) (e :: es) [] pos) (Wj sp [] E0 t) := Adx C hr ha hg hdb (Ji h1) (Kl h2)
end
end L2
namespace L2
open PySem PySem.Spec PyProof.Rows
def Itd (lo : Int) (n : Nat) : It := ⟨fun i _ => i < n, fun i H x H' => H' = H /\ x = .int (lo - i), fun i _ => n <= i⟩
theorem Aaz {P : Program} {w : World} {K : PySem.W.Frag} {tg : Expr} (it : Addr) (lo : Int) (n : Nat) : Turn P w K tg (Itd lo n) [it] it (fun i h => IsRangeIter h it (lo + (i : Nat) * (-1)) ((n : Int) - (i : Nat)) (-1)) where
  mem := by simp
  obj := fun i h st b hb => by
    have e : b = it := by simpa using hb
    subst e
    exact ⟨_, st, fun v z => by
      have z' : Data.fields _ = Data.cell v := z
      cases z'⟩
  keep := fun i h h' st k => k it (by simp) _ st
  item := by
    intro X hP hw hK hc i pins s σ H E I hf st hg
    subst hP hw hK
    obtain ⟨f0, f1, f2, f3, f4, f5⟩ := hf it (by simp)
    have W := Walks.range (prog := X.prog) (w := X.w) (I.ok.hd hc) it lo (-1) n
    refine W.item i s _ _ hg st fun v h' tk hv st' kk => ?_
    obtain ⟨t, rfl⟩ := hv
    have I1 : Inv X pins σ H { s with heap := h', toks := tk } := I.turned (fun b o hb e => kk b o (by simpa using hb) e) f0 f1 f3 f4 f5
    refine ⟨_, rfl, Ab6 (s := { s with heap := h', toks := tk }) (n := "range_iterator") st' rfl rfl (by decide) ⟨.int (lo - i), H, I1, ⟨t, ?_⟩, ⟨rfl, rfl⟩, st', fun b hb => (hf b hb).1⟩⟩
    rw [Int.mul_neg, Int.mul_one, <- Int.sub_eq_add_neg]
  done := by
    intro X hP hw hK hc i pins s σ H E I hf st hg
    subst hP hw hK
    obtain ⟨f0, f1, f2, f3, f4, f5⟩ := hf it (by simp)
    exact wpAny_pyNext_range_end (I.ok.hd hc) st (by have : n <= i := hg; omega) fun h' eb => ⟨rfl, I.turned (t' := s.toks) (fun b o hb e => eb b o hb e) f0 f1 f3 f4 f5⟩
  self := fun _ _ _ _ _ st h => wpAny_pyIter_rangeiter st h
section
variable {X : Cx} {tg : Expr}
theorem Afs {pins : List (Addr × Obj)} {σ : St} {H : Hp} {s : Shared} {R : It -> Hp -> Prop} {E : Value -> Shared -> Prop} {lo hi : Int} {t u v : Tok} {tk : Nat} (I : Inv X pins σ H s) (h1 : -(2 ^ 62) <= lo) (h2 : lo < 2 ^ 62) (h3 : -(2 ^ 62) <= hi) (h4 : hi < 2 ^ 62)
    (q : R (Itd lo (lo - hi).toNat) H) : wpAny (model X.prog X.w) X.A (pyIter (.ref s.heap.objs.size)) (PIE X pins σ tg R) E { s with heap := s.heap.push { cls := .type "range", data := .fields #[.int lo t, .int hi u, .int (-1) v] }, toks := tk } := by
  refine wpAny_pyIter_range (IsRange.new ..) (PySem.W.small_down h1 h2 h3 h4) ?_
  have I1 : Inv X pins σ H { s with heap := s.heap.push { cls := .type "range", data := .fields #[.int lo t, .int hi u, .int (-1) v] }, toks := tk } := I.kept fun b o e => Heap.get?_push_of_some _ e
  refine ⟨(s.heap.push { cls := .type "range", data := .fields #[.int lo t, .int hi u, .int (-1) v] }).objs.size, [(s.heap.push { cls := .type "range", data := .fields #[.int lo t, .int hi u, .int (-1) v] }).objs.size], _, _, H, rfl,
    I1.kept (t' := tk) fun b o e => Heap.get?_push_of_some _ e, Aaz _ lo (lo - hi).toNat, ?_, fun b hb => ?_, q⟩
  . have e1 : lo + ((0 : Nat) : Int) * (-1) = lo := by simp
    have e2 : (((lo - hi).toNat : Nat) : Int) - ((0 : Nat) : Int) = Builtin.Range.rangeSize lo hi (-1) := by rw [PySem.W.rangeSize_downNat]; omega
    show IsRangeIter _ _ (lo + ((0 : Nat) : Int) * (-1)) ((((lo - hi).toNat : Nat) : Int) - ((0 : Nat) : Int)) (-1)
    rw [e1, e2]
    exact Heap.get?_push_size _ rfl
  . have e : b = (s.heap.push { cls := .type "range", data := .fields #[.int lo t, .int hi u, .int (-1) v] }).objs.size := by simpa using hb
    subst e
    exact I1.fpOk (Nat.le_refl _) (I1.hok.fresh (Nat.le_refl _))
def Ag7 (ta : TA) : TI := fun σ H R => ta σ H fun vs H1 => ∃ i j : Int, vs = [.int i, .int j, .int (-1)] /\ (-(2 ^ 62) <= i /\ i < 2 ^ 62 /\ -(2 ^ 62) <= j /\ j < 2 ^ 62) /\ R (Itd i (i - j).toNat) H1
theorem Mt {a b c : Expr} {ta : TA} {p pos : Pos} (hg : Gl X "range") (hm : X.mg "range" = none) (ha : PA X [a, b, c] ta) (h1 : Dl a = true := by rfl) (h2 : [b, c].all Dl = true := by rfl) :
    PI X tg (.Call (.Name "range" p) [a, b, c] [] pos) (Ag7 ta) := by
  intro pins s σ H R I h
  refine Call_ (Ow I hg hm boot_range (PyProof.Rows.callWith_type1 (thn (ha pos pins s σ H _ I h) fun us s1 ⟨vs, H1, I1, r1, q1⟩ => ?_) (Ji h1) (Kl h2)))
  obtain ⟨i, j, e, ⟨q1, q2, q3, q4⟩, q⟩ := q1
  subst e
  cases r1 with
  | cons r rr =>
    cases rr with
    | cons r' rr =>
      cases rr with
      | cons r'' rr =>
        cases rr
        obtain ⟨t, rfl⟩ := r
        obtain ⟨t', rfl⟩ := r'
        obtain ⟨t'', rfl⟩ := r''
        exact call_range_3 (by decide) (Afs I1 q1 q2 q3 q4 q) (.inl (PyProof.noPylong_of_log2 (by decide +kernel)))
theorem Gk {ta : TA} {σ : St} {H : Hp} {R : It -> Hp -> Prop} : Ag7 ta σ H R = ta σ H (fun vs H1 => ∃ i j : Int, vs = [.int i, .int j, .int (-1)] /\ (-(2 ^ 62) <= i /\ i < 2 ^ 62 /\ -(2 ^ 62) <= j /\ j < 2 ^ 62) /\ R (Itd i (i - j).toNat) H1) := rfl
theorem Lh {i j : Int} {G : Int -> Int -> Prop} : (∃ i' j' : Int, [V.int i, .int j, .int (-1)] = [.int i', .int j', .int (-1)] /\ G i' j') = G i j := propext ⟨fun ⟨_, _, e, h⟩ => by cases e; exact h, fun h => ⟨i, j, rfl, h⟩⟩
end
theorem Qc {H : Hp} {lo : Int} {n : Nat} : Agw (Itd lo n) H (List.range n) (fun i => .int (lo - (i : Nat))) := fun i => by
  refine ⟨fun e => ?_, fun e h => ?_⟩
  . have := List.getElem?_eq_none_iff.mp e
    rw [List.length_range] at this
    exact this
  . obtain ⟨h1, h2⟩ := List.getElem?_eq_some_iff.mp h
    rw [List.length_range] at h1
    rw [List.getElem_range] at h2
    subst h2
    exact ⟨h1, fun x H3 ⟨a, b⟩ => ⟨a, b⟩⟩
end L2
namespace L2
open PySem PySem.Spec PyProof.Rows
section
variable {X : Cx} {e st : Expr} {te tst : TE} {pos p2 : Pos}
def Akb (K : PySem.W.Frag) (te tst : TE) : TE := fun σ H Q => te σ H fun x H1 => tst σ H1 fun y H2 => ∃ a xs, x = .ref a /\ y = .int (-1) /\ SqL K H2 a xs /\ ∀ p, H2 p = none -> Q (.ref p) (upd H2 p (.lst xs.reverse))
theorem Gu {K : PySem.W.Frag} {σ : St} {H : Hp} {Q : VK} : Akb K te tst σ H Q = te σ H (fun x H1 => tst σ H1 fun y H2 => ∃ a xs, x = .ref a /\ y = .int (-1) /\ SqL K H2 a xs /\ ∀ p, H2 p = none -> Q (.ref p) (upd H2 p (.lst xs.reverse))) := rfl
end
end L2
namespace L2
open PySem PySem.Spec PyProof.Rows
theorem Ai1 {σ : St} {H : Hp} {g : TG} {tb : TS} {D : Ends} {J : It} (n : Nat) (inj : Nat -> V) (Pv : Nat -> St -> Hp -> Prop) (h0 : Pv 0 σ H) (hw : ∀ i σ H, Pv i σ H -> Agw J H (List.range n) inj)
    (hs : ∀ i σ H, i < n -> Pv i σ H -> g (inj i) σ H fun σ2 H2 => tb { D with nx := Pv (i + 1), ct := Pv (i + 1), bk := D.nx } σ2 H2) (hd : ∀ σ H, Pv n σ H -> D.nx σ H) : FI J g tb D σ H := by
  refine Ado (es := List.range n) (inj := inj) (fun pre => Pv pre.length) h0 (fun pre σ H p => hw pre.length σ H p) (fun pre e post σ H he p => ?_) (fun σ H p => hd σ H (by rw [List.length_range] at p; exact p))
  have hl := congrArg List.length he
  rw [List.length_range, List.length_append, List.length_cons] at hl
  have ee : e = pre.length := by
    have := congrArg (fun l => l[pre.length]?) he
    simp only [List.getElem?_append_right (Nat.le_refl _), Nat.sub_self, List.getElem?_cons_zero] at this
    rw [List.getElem?_range (by omega)] at this
    exact (Option.some.inj this).symm
  subst ee
  have := hs pre.length σ H (by omega) p
  rw [List.length_append, List.length_singleton]
  exact this
theorem Same.put {H H' : Hp} {p : Addr} {o : HO} (s : Same H H') (hp : H p = none) : Same H (L2.upd H' p o) := fun b u e => by
  rw [Cm (Bt e hp)]
  exact s b u e
end L2
namespace L2
open PySem PySem.Spec PyProof.Rows
def Ak2 (K : PySem.W.Frag) (tl : TE) : TI := fun σ H R => tl σ H fun x H1 => ∃ a, x = .ref a /\ (((∃ xs, SqL K H1 a xs) /\ R (Itl K a) H1) \/ ((∃ xs, SqT K H1 a xs) /\ R (Itt K a) H1))
theorem Fy {K : PySem.W.Frag} {tl : TE} {σ : St} {H : Hp} {R : It -> Hp -> Prop} : Ak2 K tl σ H R = tl σ H (fun x H1 => ∃ a, x = .ref a /\ (((∃ xs, SqL K H1 a xs) /\ R (Itl K a) H1) \/ ((∃ xs, SqT K H1 a xs) /\ R (Itt K a) H1))) := rfl
end L2
namespace L2
theorem Bc {t u : TS} {D : Ends} {σ : St} {H : Hp} (P : St -> Hp -> Prop) (h1 : ∀ N : St -> Hp -> Prop, (∀ σ' H', P σ' H' -> N σ' H') -> t { D with nx := N } σ H) (h2 : ∀ σ' H', P σ' H' -> u D σ' H') : Aiy t u D σ H := h1 (u D) h2
end L2
namespace L2
open PySem PySem.Spec PyProof.Rows
theorem Wu {K : PySem.W.Frag} {H : Hp} {p a : Addr} {acc xs : List V} {o : HO} (h : SqT K H a xs) (hp : H p = some (.lst acc)) : SqT K (upd H p o) a xs := by
  rcases h with (h | ⟨o', h⟩) | h
  . exact .inl (.inl (by rw [Cm (Aip h hp (by intro z; cases z))]; exact h))
  . exact .inl (.inr ⟨o', by rw [Cm (Aip h hp (by intro z; cases z))]; exact h⟩)
  . exact .inr h
end L2
namespace L2
open PySem PySem.Spec PyProof.Rows
def Itz (K : PySem.W.Frag) (a b : Addr) : It :=
  ⟨fun i H => ∃ xs ys x y, SqL K H a xs /\ SqL K H b ys /\ xs[i]? = some x /\ ys[i]? = some y,
   fun i H x H' => ∃ p u v, (∀ xs, SqL K H a xs -> xs[i]? = some u) /\ (∀ ys, SqL K H b ys -> ys[i]? = some v) /\ H p = none /\ x = .ref p /\ H' = upd H p (.tup [u, v]),
   fun i H => ∃ xs ys, SqL K H a xs /\ SqL K H b ys /\ (xs.length <= i \/ ys.length <= i)⟩
section
variable {X : Cx} {a b : Expr} {ta : TA} {el : List Expr} {x1} {tp p pos : Pos}
def Ak1 (K : PySem.W.Frag) (ta : TA) : TI := fun σ H R => ta σ H fun vs H1 => ∃ a b, vs = [.ref a, .ref b] /\ (∃ xs, SqL K H1 a xs) /\ (∃ ys, SqL K H1 b ys) /\ R (Itz K a b) H1
end
theorem Fj {K : PySem.W.Frag} {ta : TA} {σ : St} {H : Hp} {R : It -> Hp -> Prop} : Ak1 K ta σ H R = ta σ H (fun vs H1 => ∃ a b, vs = [.ref a, .ref b] /\ (∃ xs, SqL K H1 a xs) /\ (∃ ys, SqL K H1 b ys) /\ R (Itz K a b) H1) := rfl
end L2
namespace L2
open PySem PySem.SeqAt PySem.Spec PyProof.Rows
section
variable {X : Cx}
theorem Aag : OpR X (compareOp .IsNot) (fun x y H Q => ∃ a b : Bool, x = .bl a /\ y = .bl b /\ Q (.bl (a != b)) H) := by
  intro pins s σ H x y v u Q I rx ry h
  obtain ⟨a, b, rfl, rfl, q⟩ := h
  cases rx
  cases ry
  exact isnot_bool ⟨.bl _, H, I, rfl, q⟩
open Classical in
def Ajn : TE := fun _ H Q => ∀ p, H p = none -> Q (.ref p) (upd H p (.dK []))
theorem Gw {σ : St} {H : Hp} {Q : VK} : Ajn σ H Q = ∀ p, H p = none -> Q (.ref p) (upd H p (.dK [])) := rfl
end
end L2
namespace L2
open PySem PySem.Spec PyProof.Rows
def tCV (i : Nat) (a : Addr) (sp : Sp) (E : XK) (t : TA) : TE := fun σ H Q => σ[i]? = some (some (.ref a)) /\ t σ H fun vs H1 => sp vs H1 Q E
theorem Vs {i : Nat} {a : Addr} {sp : Sp} {E : XK} {t : TA} {σ : St} {H : Hp} {Q : VK} : tCV i a sp E t σ H Q = (σ[i]? = some (some (.ref a)) /\ t σ H fun vs H1 => sp vs H1 Q E) := rfl
theorem Y8 {X : Cx} {i k : Nat} {a : Addr} {x y : Str} {ps : List Str} {sp : Sp} {p pos : Pos} {e : Expr} {es : List Expr} {t : TA} (C : Cal X.prog X.w X.K X.mg X.base k y ps sp) (hy : X.mg y = some (.ref a)) (hr : Kg k X.A)
    (hx : PE X (.Name x p) (Ael i)) (ha : PA X (e :: es) t) (h1 : Dl e = true := by rfl) (h2 : es.all Dl = true := by rfl) : PE X (.Call (.Name x p) (e :: es) [] pos) (tCV i a sp E0 t) := by
  obtain ⟨f, fd, G, g, b, c⟩ := C
  have ef : f = a := by rw [hy] at g; cases g; rfl
  subst ef
  intro pins s σ H Q I h
  obtain ⟨hv, h⟩ := h
  refine wpAny_Call_Name_kw (thn (hx pins s σ H (fun v H1 => v = .ref f /\ H1 = H) I ⟨_, hv, rfl, rfl⟩) fun u s1 ⟨v, H1, I1, r, e1, e2⟩ => ?_)
  subst e1 e2
  cases r
  refine PySem.W.callWith_K (h₀ := X.base) I1.ok.mod.kin b (thn (ha pos pins s1 σ H1 _ I1 h) fun us s2 ⟨vs, H2, I2, r2, q⟩ => ⟨I2.kIn, ?_⟩) (Ji h1) (Kl h2)
  have q' : sp (vs ++ []) H2 Q E0 := by rw [List.append_nil]; exact q
  exact Aer G hr c .nil Aiu I2 r2 q'
theorem Nk {X : Cx} {x : Str} {v : V} {pos : Pos} (hg : Gl X x) (h : ∃ u, X.mg x = some u /\ RelV v u) (hd : (x == ("__debug__" : Str)) = false := by decide) : PE X (.Name x pos) (tC v) := by
  obtain ⟨u, a, b⟩ := h
  exact Jy hg a b hd
end L2
namespace L2
open PySem PySem.Spec PyProof.Rows
def Akn (K : PySem.W.Frag) (a : Addr) : It :=
  ⟨fun i H => ∃ xs x, SqL K H a xs /\ xs[i]? = some x, fun i H x H' => ∃ p v, (∀ xs, SqL K H a xs -> xs[i]? = some v) /\ H p = none /\ x = .ref p /\ H' = upd H p (.tup [.int (i : Nat), v]), fun i H => ∃ xs, SqL K H a xs /\ xs.length <= i⟩
section
variable {X : Cx} {a : Expr} {ta : TA} {el : List Expr} {x1} {tp p pos : Pos}
def Akv (K : PySem.W.Frag) (ta : TA) : TI := fun σ H R => ta σ H fun vs H1 => ∃ a, vs = [.ref a] /\ (∃ xs, SqL K H1 a xs) /\ R (Akn K a) H1
end
theorem Gv {K : PySem.W.Frag} {σ : St} {H : Hp} {ta : TA} {R : It -> Hp -> Prop} : Akv K ta σ H R = ta σ H (fun vs H1 => ∃ a, vs = [.ref a] /\ (∃ xs, SqL K H1 a xs) /\ R (Akn K a) H1) := rfl
end L2
namespace L2
open PySem PySem.Spec PyProof.Rows
def Ajd (sp : Sp) (Cs : List Addr) (g : V -> St -> St) (i : Nat) (ta : TA) (ts : Addr -> Addr -> Obj -> TS) : TS := fun D σ H => ta σ H fun vs H1 => sp vs H1 (fun v H2 => D.nx (g v σ) H2)
  (fun c _ H2 => ∃ C, c = .ref C /\ C ∈ Cs /\ ∀ x oe, oe.cls = .ref C -> ts C x oe { nx := fun σ' H' => D.nx (σ'.set i none) H', rt := D.rt, bk := fun σ' H' => D.bk (σ'.set i none) H', ct := fun σ' H' => D.ct (σ'.set i none) H' } (σ.set i (some (.ref x))) H2)
theorem Fv {sp : Sp} {Cs : List Addr} {g : V -> St -> St} {i : Nat} {ta : TA} {ts : Addr -> Addr -> Obj -> TS} {D : Ends} {σ : St} {H : Hp} : Ajd sp Cs g i ta ts D σ H = ta σ H (fun vs H1 => sp vs H1 (fun v H2 => D.nx (g v σ) H2)
  (fun c _ H2 => ∃ C, c = .ref C /\ C ∈ Cs /\ ∀ x oe, oe.cls = .ref C -> ts C x oe { nx := fun σ' H' => D.nx (σ'.set i none) H', rt := D.rt, bk := fun σ' H' => D.bk (σ'.set i none) H', ct := fun σ' H' => D.ct (σ'.set i none) H' } (σ.set i (some (.ref x))) H2)) := rfl
def Aj1 (sp : Sp) (Cs : List Addr) (g : V -> St -> St) (ta : TA) (ts : Addr -> Addr -> Obj -> TS) : TS := fun D σ H => ta σ H fun vs H1 => sp vs H1 (fun v H2 => D.nx (g v σ) H2)
  (fun c _ H2 => ∃ C, c = .ref C /\ C ∈ Cs /\ ∀ x oe, oe.cls = .ref C -> ts C x oe D σ H2)
theorem Gj {sp : Sp} {Cs : List Addr} {g : V -> St -> St} {ta : TA} {ts : Addr -> Addr -> Obj -> TS} {D : Ends} {σ : St} {H : Hp} : Aj1 sp Cs g ta ts D σ H = ta σ H (fun vs H1 => sp vs H1 (fun v H2 => D.nx (g v σ) H2)
  (fun c _ H2 => ∃ C, c = .ref C /\ C ∈ Cs /\ ∀ x oe, oe.cls = .ref C -> ts C x oe D σ H2)) := rfl
section
variable {c : TT} {tb : TS} {D : Ends} {σ : St} {H : Hp}
def WM (Pv : Nat -> St -> Hp -> Prop) (tb : TS) (D : Ends) (m : Nat) (σ : St) (H : Hp) : Prop := ∃ N : St -> Hp -> Prop, (∀ σ' H', N σ' H' -> ∃ m', m' < m /\ Pv m' σ' H') /\ tb { D with nx := N, ct := N, bk := D.nx } σ H
theorem Aif {Pv : Nat -> St -> Hp -> Prop} {m : Nat} (h : tb { D with nx := fun σ' H' => ∃ m', m' < m /\ Pv m' σ' H', ct := fun σ' H' => ∃ m', m' < m /\ Pv m' σ' H', bk := D.nx } σ H) : WM Pv tb D m σ H := ⟨_, fun _ _ z => z, h⟩
theorem Ab1 (Pv : Nat -> St -> Hp -> Prop) (m0 : Nat) (h0 : Pv m0 σ H) (hs : ∀ m σ H, Pv m σ H -> c σ H fun b H1 => if b = true then WM Pv tb D m σ H1 else D.nx σ H1) : Uz c tb D σ H := ⟨Pv, ⟨m0, h0⟩, hs⟩
end
end L2
namespace L2
open PySem PySem.Spec PyProof.Rows
def It1 (t : Bool) (h : Heap) (j u : Addr) (k : Nat) : Prop := if t = true then h.IsTupleIter j u k else h.IsListIter j u k
def Sq1 (t : Bool) (h : Heap) (u : Addr) (xs : Array Value) : Prop := if t = true then h.IsTuple u xs else h.IsList u xs
theorem It1.ext {t : Bool} {h g : Heap} {j u b : Addr} {k : Nat} (x : It1 t h j u k) (e : Heap.ExtBut b h g) (n : j ≠ b) : It1 t g j u k := by
  cases t
  . exact Heap.IsListIter.extBut x e n
  . exact Heap.IsTupleIter.extBut x e n
theorem It1.to {t : Bool} {h g : Heap} {j u : Addr} {k : Nat} (x : It1 t h j u k) (e : ∀ o, h.get? j = some o -> g.get? j = some o) : It1 t g j u k := by
  cases t
  . exact Heap.IsListIter.at x e
  . exact Heap.IsTupleIter.at x e
theorem Sq1.ext {t : Bool} {h g : Heap} {u b : Addr} {xs : Array Value} (x : Sq1 t h u xs) (e : Heap.ExtBut b h g) (n : u ≠ b) : Sq1 t g u xs := by
  cases t
  . exact Heap.IsList.extBut x e n
  . exact Heap.IsTuple.extBut x e n
theorem It1.there {t : Bool} {h : Heap} {j u : Addr} {k : Nat} (x : It1 t h j u k) : ∃ o, h.get? j = some o /\ ∀ v, o.data ≠ .cell v := by
  cases t
  . obtain ⟨o, e, _, d⟩ := (show h.IsListIter j u k from x)
    exact ⟨o, e, fun v z => by rw [d] at z; cases z⟩
  . obtain ⟨o, e, _, d⟩ := (show h.IsTupleIter j u k from x)
    exact ⟨o, e, fun v z => by rw [d] at z; cases z⟩
section
variable {prog : Program} {w : World} {A : Around} {E : Value -> Shared -> Prop} {s : Shared}
theorem Afx {t : Bool} {j u : Addr} {k : Nat} {xs : Array Value} {y : Value} {Q : Value -> Shared -> Prop} (hj : It1 t s.heap j u k) (hu : Sq1 t s.heap u xs) (hy : xs[k]? = some y)
    (c : ∀ g, It1 t g j u (k + 1) -> Heap.SameBut j s.heap g -> Q y { s with heap := g }) : wpAny (model prog w) A (Builtin.SmallTypes.nextOf (.ref j)) Q E s := by
  cases t
  . exact wpAny_nextOf_list_item hj hu hy c
  . exact nextT hj hu hy c
theorem Ut {t : Bool} {j u : Addr} {k : Nat} {xs : Array Value} {Q : Value -> Shared -> Prop} (hh : A.handled = none) (hj : It1 t s.heap j u k) (hu : Sq1 t s.heap u xs) (hy : xs[k]? = none)
    (c : ∀ g e, Heap.ExtBut j s.heap g -> (∃ o, g.get? e = some o /\ o.cls = .type "StopIteration") -> E (.ref e) { s with heap := g }) : wpAny (model prog w) A (Builtin.SmallTypes.nextOf (.ref j)) Q E s := by
  cases t
  . exact wpAny_nextOf_list_end hh hj hu hy c
  . exact Vp hh hj hu hy c
theorem Abn {t1 t2 : Bool} {zz TI TO i1 i2 u1 u2 : Addr} {k1 k2 : Nat} {xs ys : Array Value} {x y p q : Value} {Q : Value -> Shared -> Prop} (D : ZipApart zz TI TO i1 i2 u1 u2)
    (hz : IsZip s.heap zz TI TO .none) (hTI : IsPair s.heap TI (.ref i1) (.ref i2)) (hTO : IsPair s.heap TO p q) (j1 : It1 t1 s.heap i1 u1 k1) (j2 : It1 t2 s.heap i2 u2 k2) (a1 : Sq1 t1 s.heap u1 xs) (a2 : Sq1 t2 s.heap u2 ys) (hx : xs[k1]? = some x) (hy : ys[k2]? = some y)
    (c : ∀ g, IsZip g zz TI TO (rawInt s.heap.objs.size) -> IsPair g TO x y -> It1 t1 g i1 u1 (k1 + 1) -> It1 t2 g i2 u2 (k2 + 1) -> IsPair g s.heap.objs.size x y -> g.objs.size = s.heap.objs.size + 1 ->
      (∀ b o, b ≠ zz -> b ≠ TO -> b ≠ i1 -> b ≠ i2 -> s.heap.get? b = some o -> g.get? b = some o) -> Q (.ref s.heap.objs.size) { s with heap := g }) :
    wpAny (model prog w) A (Builtin.«zip.__next__» ⟨[.ref zz], []⟩) (fun fin s' => ∃ v, fin = .done (.ret v) /\ Q v s') E s := by
  show wpAny _ _ (field (.ref zz) 2 >>= _) _ _ s
  refine wpAny_bind (wpAny_field hz rfl (x := .bool false) rfl ?z1)
  case z1 =>
  show wpAny _ _ (field (.ref zz) 3 >>= _) _ _ s
  refine wpAny_bind (wpAny_field hz rfl (x := .ref TI) rfl (wpAny_bind (wpAny_seqItems hTI rfl ?z2)))
  case z2 =>
  show wpAny _ _ (Builtin.SmallTypes.ownedTupleIsFree (.ref zz) >>= _) _ _ s
  refine wpAny_bind (m := Builtin.SmallTypes.ownedTupleIsFree (.ref zz)) ?z3
  case z3 =>
  unfold Builtin.SmallTypes.ownedTupleIsFree; refine wpAny_bind (wpAny_field hz rfl (x := .none) rfl (wpAny_pure ?z4))
  case z4 =>
  simp only [if_true]; refine wpAny_bind (wpAny_rule (wpAny_bind (wpAny_field hz rfl (x := .ref TO) rfl (wpAny_bind (wpAny_setField_rec hz (by simp) fun g1 (z1 : IsZip g1 zz TI TO .ellipsis) b1 => ?z5)))))
  case z5 =>
  refine wpAny_bind ?z6
  case z6 =>
  simp only [List.forIn_cons, List.forIn_nil, List.zipIdx_cons, List.zipIdx_nil]
  refine wpAny_bind (wpAny_bind (wpAny_onRaise ?z7))
  case z7 =>
  show wpAny _ _ (Builtin.SmallTypes.nextOf (.ref i1) >>= _) _ _ { s with heap := g1 }
  refine wpAny_bind (Afx (j1.ext b1.extBut D.i1z) (a1.ext b1.extBut D.l1z) hx fun g2 n1 b2 => wpAny_pure ?z8)
  case z8 =>
  have o2 : IsPair g2 TO p q := b2.extBut _ _ D.TOi1 (b1.extBut _ _ D.TOz hTO)
  refine wpAny_bind (wpAny_seqItems o2 rfl (wpAny_bind (wpAny_updateSeq_pair o2 fun g3 (o3 : IsPair g3 TO x q) b3 => wpAny_bind (wpAny_letGo (wpAny_pure (wpAny_bind (wpAny_bind (wpAny_onRaise ?z9))))))))
  case z9 =>
  show wpAny _ _ (Builtin.SmallTypes.nextOf (.ref i2) >>= _) _ _ { s with heap := g3 }
  refine wpAny_bind (Afx (((j2.ext b1.extBut D.i2z).ext b2.extBut D.i12.symm).ext b3.extBut D.TOi2.symm) (((a2.ext b1.extBut D.l2z).ext b2.extBut D.l2i1).ext b3.extBut D.l2TO) hy fun g4 n2 b4 => wpAny_pure ?z10)
  case z10 =>
  have o4 : IsPair g4 TO x q := b4.extBut _ _ D.TOi2 o3
  refine wpAny_bind (wpAny_seqItems o4 rfl (wpAny_bind (wpAny_updateSeq_pair o4 fun g5 (o5 : IsPair g5 TO x y) b5 => wpAny_bind (wpAny_letGo (wpAny_pure (wpAny_pure (wpAny_bind (wpAny_seqItems o5 rfl (wpAny_bind (wpAny_newTuple ?z11))))))))))
  case z11 =>
  have sz : g5.objs.size = s.heap.objs.size := by rw [b5.1, b4.1, b3.1, b2.1, b1.1]
  have z5 : IsZip g5 zz TI TO .ellipsis := b5.extBut _ _ D.TOz.symm (b4.extBut _ _ D.i2z.symm (b3.extBut _ _ D.TOz.symm (b2.extBut _ _ D.i1z.symm z1)))
  have k5 : ∀ b o, b ≠ zz -> b ≠ TO -> b ≠ i1 -> b ≠ i2 -> s.heap.get? b = some o -> g5.get? b = some o := fun b o c1 c2 c3 c4 e => b5.extBut _ _ c2 (b4.extBut _ _ c4 (b3.extBut _ _ c2 (b2.extBut _ _ c3 (b1.extBut _ _ c1 e))))
  have m1 : It1 t1 g5 i1 u1 (k1 + 1) := ((n1.ext b3.extBut D.TOi1.symm).ext b4.extBut D.i12).ext b5.extBut D.TOi1.symm
  have m2 : It1 t2 g5 i2 u2 (k2 + 1) := n2.ext b5.extBut D.TOi2.symm
  have zlt : zz < g5.objs.size := Heap.lt_size z5
  show wpAny _ _ (Builtin.SmallTypes.ownedTupleHandOut (.ref zz) (.ref g5.objs.size) >>= _) _ _ _
  refine wpAny_bind (m := Builtin.SmallTypes.ownedTupleHandOut (.ref zz) (.ref g5.objs.size)) ?z12
  case z12 =>
  unfold Builtin.SmallTypes.ownedTupleHandOut
  have z6 : IsZip (g5.push { cls := .type "tuple", data := .seq #[x, y] }) zz TI TO .ellipsis := Heap.get?_push_of_some _ z5
  refine wpAny_bind (wpAny_setField_rec z6 (by simp) fun g7 (z7 : IsZip g7 zz TI TO (rawInt g5.objs.size)) b7 => wpAny_setField_rec z7 (by simp) fun g8 (z8 : IsZip g8 zz TI TO (rawInt g5.objs.size)) b8 => ?z13)
  case z13 =>
  have up : ∀ b o, b ≠ zz -> g5.get? b = some o -> g8.get? b = some o := fun b o c1 e => b8.extBut _ _ c1 (b7.extBut _ _ c1 (Heap.get?_push_of_some _ e))
  have t8 : IsPair g8 g5.objs.size x y := b8.extBut _ _ (Nat.ne_of_gt zlt) (b7.extBut _ _ (Nat.ne_of_gt zlt) (Heap.get?_push_size _ rfl))
  have w8 : g8.objs.size = g5.objs.size + 1 := by rw [b8.1, b7.1, Heap.size_push]
  rw [sz] at z8 t8 w8
  refine wpAny_pure ⟨_, rfl, ?z14⟩
  case z14 =>
  show Q (.ref g5.objs.size) _
  rw [sz]
  exact c g8 z8 (up _ _ D.TOz o5) (m1.to fun o e => up _ o D.i1z e) (m2.to fun o e => up _ o D.i2z e) t8 w8 fun b o c1 c2 c3 c4 e => up b o c1 (k5 b o c1 c2 c3 c4 e)
theorem Ac5 {t1 t2 : Bool} {zz TI TO i1 i2 u1 u2 : Addr} {k1 k2 : Nat} {xs ys : Array Value} {p q : Value} {Q : Fin -> Shared -> Prop} (hh : A.handled = none) (D : ZipApart zz TI TO i1 i2 u1 u2)
    (hz : IsZip s.heap zz TI TO .none) (hTI : IsPair s.heap TI (.ref i1) (.ref i2)) (hTO : IsPair s.heap TO p q) (j1 : It1 t1 s.heap i1 u1 k1) (j2 : It1 t2 s.heap i2 u2 k2) (a1 : Sq1 t1 s.heap u1 xs) (a2 : Sq1 t2 s.heap u2 ys) (he : xs[k1]? = none \/ ys[k2]? = none)
    (c : ∀ g e, (∀ b o, b ≠ zz -> b ≠ TO -> b ≠ i1 -> b ≠ i2 -> s.heap.get? b = some o -> g.get? b = some o) -> (∃ o, g.get? e = some o /\ o.cls = .type "StopIteration") -> E (.ref e) { s with heap := g }) :
    wpAny (model prog w) A (Builtin.«zip.__next__» ⟨[.ref zz], []⟩) Q E s := by
  show wpAny _ _ (field (.ref zz) 2 >>= _) _ _ s
  refine wpAny_bind (wpAny_field hz rfl (x := .bool false) rfl ?z1)
  case z1 =>
  show wpAny _ _ (field (.ref zz) 3 >>= _) _ _ s
  refine wpAny_bind (wpAny_field hz rfl (x := .ref TI) rfl (wpAny_bind (wpAny_seqItems hTI rfl ?z2)))
  case z2 =>
  show wpAny _ _ (Builtin.SmallTypes.ownedTupleIsFree (.ref zz) >>= _) _ _ s
  refine wpAny_bind (m := Builtin.SmallTypes.ownedTupleIsFree (.ref zz)) ?z3
  case z3 =>
  unfold Builtin.SmallTypes.ownedTupleIsFree; refine wpAny_bind (wpAny_field hz rfl (x := .none) rfl (wpAny_pure ?z4))
  case z4 =>
  simp only [if_true]; refine wpAny_bind (wpAny_rule (wpAny_bind (wpAny_field hz rfl (x := .ref TO) rfl (wpAny_bind (wpAny_setField_rec hz (by simp) fun g1 (z1 : IsZip g1 zz TI TO .ellipsis) b1 => ?z5)))))
  case z5 =>
  refine wpAny_bind ?z6
  case z6 =>
  simp only [List.forIn_cons, List.forIn_nil, List.zipIdx_cons, List.zipIdx_nil]
  refine wpAny_bind (wpAny_bind (wpAny_onRaise ?z7))
  case z7 =>
  show wpAny _ _ (Builtin.SmallTypes.nextOf (.ref i1) >>= _) _ _ { s with heap := g1 }
  cases hx : xs[k1]? with
  | none =>
    refine wpAny_bind (Ut hh (j1.ext b1.extBut D.i1z) (a1.ext b1.extBut D.l1z) hx fun g2 e b2 ⟨oe, hoe, hce⟩ => ?_)
    have z2 : IsZip g2 zz TI TO .ellipsis := b2 _ _ D.i1z.symm z1
    have ne : e ≠ zz := fun y => by subst y; rw [z2] at hoe; cases hoe; simp at hce
    exact wpAny_setField_rec z2 (by simp) fun g3 _ b3 => c g3 e (fun b o c1 _ c3 _ y => b3.extBut _ _ c1 (b2 _ _ c3 (b1.extBut _ _ c1 y))) ⟨oe, b3.extBut _ _ ne hoe, hce⟩
  | some x =>
    have hy : ys[k2]? = none := by
      rcases he with h | h
      . rw [hx] at h; cases h
      . exact h
    refine wpAny_bind (Afx (j1.ext b1.extBut D.i1z) (a1.ext b1.extBut D.l1z) hx fun g2 n1 b2 => wpAny_pure ?_)
    have o2 : IsPair g2 TO p q := b2.extBut _ _ D.TOi1 (b1.extBut _ _ D.TOz hTO)
    refine wpAny_bind (wpAny_seqItems o2 rfl (wpAny_bind (wpAny_updateSeq_pair o2 fun g3 o3 b3 => wpAny_bind (wpAny_letGo (wpAny_pure (wpAny_bind (wpAny_bind (wpAny_onRaise ?z9))))))))
    case z9 =>
    show wpAny _ _ (Builtin.SmallTypes.nextOf (.ref i2) >>= _) _ _ { s with heap := g3 }
    refine wpAny_bind (Ut hh (((j2.ext b1.extBut D.i2z).ext b2.extBut D.i12.symm).ext b3.extBut D.TOi2.symm) (((a2.ext b1.extBut D.l2z).ext b2.extBut D.l2i1).ext b3.extBut D.l2TO) hy fun g4 e b4 ⟨oe, hoe, hce⟩ => ?_)
    have z4 : IsZip g4 zz TI TO .ellipsis := b4 _ _ D.i2z.symm (b3.extBut _ _ D.TOz.symm (b2.extBut _ _ D.i1z.symm z1))
    have ne : e ≠ zz := fun y => by subst y; rw [z4] at hoe; cases hoe; simp at hce
    exact wpAny_setField_rec z4 (by simp) fun g5 _ b5 => c g5 e (fun b o c1 c2 c3 c4 y => b5.extBut _ _ c1 (b4 _ _ c4 (b3.extBut _ _ c2 (b2.extBut _ _ c3 (b1.extBut _ _ c1 y))))) ⟨oe, b5.extBut _ _ ne hoe, hce⟩
theorem Aao {t1 t2 : Bool} {zz TI TO i1 i2 u1 u2 : Addr} {k1 k2 : Nat} {xs ys : Array Value} {x y p q : Value} {Q : Option Value -> Shared -> Prop} (D : ZipApart zz TI TO i1 i2 u1 u2)
    (hz : IsZip s.heap zz TI TO .none) (hTI : IsPair s.heap TI (.ref i1) (.ref i2)) (hTO : IsPair s.heap TO p q) (j1 : It1 t1 s.heap i1 u1 k1) (j2 : It1 t2 s.heap i2 u2 k2) (a1 : Sq1 t1 s.heap u1 xs) (a2 : Sq1 t2 s.heap u2 ys) (hx : xs[k1]? = some x) (hy : ys[k2]? = some y)
    (c : ∀ g, IsZip g zz TI TO (rawInt s.heap.objs.size) -> IsPair g TO x y -> It1 t1 g i1 u1 (k1 + 1) -> It1 t2 g i2 u2 (k2 + 1) -> IsPair g s.heap.objs.size x y -> g.objs.size = s.heap.objs.size + 1 ->
      (∀ b o, b ≠ zz -> b ≠ TO -> b ≠ i1 -> b ≠ i2 -> s.heap.get? b = some o -> g.get? b = some o) -> Q (some (.ref s.heap.objs.size)) { s with heap := g }) : wpAny (model prog w) A (pyNext (.ref zz)) Q E s := by
  have ty : s.TypeIs (.ref zz) "zip" := ⟨_, hz, rfl⟩
  unfold pyNext
  exact wpAny_bind (wpAny_attempt (wpAny_callSpecial?_slot (name := Str.ofString "__next__") ty F.slot_zip_next (wpAny_call_entry F.slot_zip_next ty F.entry_zip_next
    (Abn D hz hTI hTO j1 j2 a1 a2 hx hy fun g b1 b2 b3 b4 b5 b6 b7 => wpAny_pure (c g b1 b2 b3 b4 b5 b6 b7)) (F.args_zip_next_1 _))))
theorem Aaf {t1 t2 : Bool} {zz TI TO i1 i2 u1 u2 : Addr} {k1 k2 : Nat} {xs ys : Array Value} {p q : Value} {Q : Option Value -> Shared -> Prop} (hh : A.handled = none) (D : ZipApart zz TI TO i1 i2 u1 u2)
    (hz : IsZip s.heap zz TI TO .none) (hTI : IsPair s.heap TI (.ref i1) (.ref i2)) (hTO : IsPair s.heap TO p q) (j1 : It1 t1 s.heap i1 u1 k1) (j2 : It1 t2 s.heap i2 u2 k2) (a1 : Sq1 t1 s.heap u1 xs) (a2 : Sq1 t2 s.heap u2 ys) (he : xs[k1]? = none \/ ys[k2]? = none)
    (c : ∀ g, (∀ b o, b ≠ zz -> b ≠ TO -> b ≠ i1 -> b ≠ i2 -> s.heap.get? b = some o -> g.get? b = some o) -> Q none { s with heap := g }) : wpAny (model prog w) A (pyNext (.ref zz)) Q E s := by
  have ty : s.TypeIs (.ref zz) "zip" := ⟨_, hz, rfl⟩
  unfold pyNext
  refine wpAny_bind (wpAny_attempt (wpAny_callSpecial?_slot (name := Str.ofString "__next__") ty F.slot_zip_next (wpAny_call_entry F.slot_zip_next ty F.entry_zip_next (Ac5 hh D hz hTI hTO j1 j2 a1 a2 he fun g e hk ⟨o, ho, hc⟩ => ?_) (F.args_zip_next_1 _))))
  exact wpAny_bind (wpAny_isInstance (T := "StopIteration") (b := true) ⟨o, ho, hc⟩ isSubtype_stop (wpAny_pure (c _ hk)))
end
def Ahs (t : Bool) : String := if t = true then "tuple_iterator" else "list_iterator"
abbrev V4 (t : Bool) (u : Addr) : Obj := { cls := .type (Ahs t), data := .fields #[.ref u, .int 0 0] }
theorem iter1 {prog : Program} {w : World} {A : Around} {E : Value -> Shared -> Prop} {s : Shared} {t : Bool} {u : Addr} {xs : Array Value} {Q : Value -> Shared -> Prop} (h : Sq1 t s.heap u xs) (q : Q (.ref s.heap.objs.size) { s with heap := s.heap.push (V4 t u) }) : wpAny (model prog w) A (pyIter (.ref u)) Q E s := by
  cases t
  . exact wpAny_pyIter_list h q
  . exact wpAny_pyIter_tuple h q
theorem Abx {t : Bool} {u j : Addr} {g : Heap} (e : g.get? j = some (V4 t u)) : It1 t g j u 0 := by
  cases t
  . exact ⟨_, e, rfl, rfl⟩
  . exact ⟨_, e, rfl, rfl⟩
theorem Sq1.push {t : Bool} {h : Heap} {u : Addr} {xs : Array Value} (x : Sq1 t h u xs) (o : Obj) : Sq1 t (h.push o) u xs := by
  cases t
  . exact Heap.IsList.push x _
  . obtain ⟨ob, e, r⟩ := (show h.IsTuple u xs from x)
    exact ⟨ob, Heap.get?_push_of_some _ e, r⟩
abbrev zA1 (t1 : Bool) (h : Heap) (u1 : Addr) : Heap := h.push (V4 t1 u1)
abbrev zA2 (t1 t2 : Bool) (h : Heap) (u1 u2 : Addr) : Heap := (zA1 t1 h u1).push (V4 t2 u2)
abbrev zA3 (t1 t2 : Bool) (h : Heap) (u1 u2 : Addr) : Heap := (zA2 t1 t2 h u1 u2).push { cls := .type "tuple", data := .seq #[.ref h.objs.size, .ref (zA1 t1 h u1).objs.size] }
abbrev zA4 (t1 t2 : Bool) (h : Heap) (u1 u2 : Addr) : Heap := (zA3 t1 t2 h u1 u2).push { cls := .type "tuple", data := .seq #[.none, .none] }
abbrev zA5 (t1 t2 : Bool) (h : Heap) (u1 u2 : Addr) : Heap := (zA4 t1 t2 h u1 u2).push { cls := .type "zip", data := .fields #[.none, .bool false, .bool false, .ref (zA2 t1 t2 h u1 u2).objs.size, .ref (zA3 t1 t2 h u1 u2).objs.size] }
theorem Yu (t1 t2 : Bool) (u1 u2 : Addr) (xs ys : Array Value) :
    Meets (Builtin.«zip.__new__» ⟨[.type "zip", .ref u1, .ref u2], []⟩) (fun _ R s => Sq1 t1 s.heap u1 xs /\ Sq1 t2 s.heap u2 ys /\ R (.ok (.ret (.ref (zA4 t1 t2 s.heap u1 u2).objs.size))) { s with heap := zA5 t1 t2 s.heap u1 u2 }) :=
  .of_wp fun prog w A R s h => by
    obtain ⟨hp, g, d, tk, os⟩ := s; obtain ⟨b1, b2, h⟩ := h
    have su := sub_zip
    have L1 : Sq1 t1 (Shared.heap ⟨hp, g, d, tk, os⟩) u1 xs := b1
    have L2 : Sq1 t2 (Shared.heap ⟨hp.push (V4 t1 u1), g, d, tk, os⟩) u2 ys := b2.push _
    wp_walk using iter1 L1, iter1 L2
    exact ⟨_, rfl, h⟩
theorem Ab2 {prog : Program} {w : World} {A : Around} {E : Value -> Shared -> Prop} {s : Shared} {t1 t2 : Bool} {u1 u2 : Addr} {xs ys : Array Value} {Q : Value -> Shared -> Prop} (b1 : Sq1 t1 s.heap u1 xs) (b2 : Sq1 t2 s.heap u2 ys)
    (c : ∀ g, IsZip g (s.heap.objs.size + 4) (s.heap.objs.size + 2) (s.heap.objs.size + 3) .none -> IsPair g (s.heap.objs.size + 2) (.ref s.heap.objs.size) (.ref (s.heap.objs.size + 1)) -> IsPair g (s.heap.objs.size + 3) .none .none ->
      It1 t1 g s.heap.objs.size u1 0 -> It1 t2 g (s.heap.objs.size + 1) u2 0 -> (∀ b o, s.heap.get? b = some o -> g.get? b = some o) -> Q (.ref (s.heap.objs.size + 4)) { s with heap := g }) : wpAny (model prog w) A (call (.type "zip") [.ref u1, .ref u2]) Q E s := by
  refine callType_new F.called_zip (by decide) (F.typeCall_zip_2 _ _) (F.newCall_zip_2 _ _) (fun obj => F.args_object_init_3 obj _ _) F.entry_zip_new (Yu t1 t2 u1 u2 xs ys) ⟨b1, b2, ?_⟩
  have w1 : (zA1 t1 s.heap u1).objs.size = s.heap.objs.size + 1 := Heap.size_push ..
  have w2 : (zA2 t1 t2 s.heap u1 u2).objs.size = s.heap.objs.size + 2 := by rw [Heap.size_push, w1]
  have w3 : (zA3 t1 t2 s.heap u1 u2).objs.size = s.heap.objs.size + 3 := by rw [Heap.size_push, w2]
  have w4 : (zA4 t1 t2 s.heap u1 u2).objs.size = s.heap.objs.size + 4 := by rw [Heap.size_push, w3]
  have e5 : (zA5 t1 t2 s.heap u1 u2).get? (zA4 t1 t2 s.heap u1 u2).objs.size = some _ := Heap.get?_push_size _ rfl
  have e4 : (zA5 t1 t2 s.heap u1 u2).get? (zA3 t1 t2 s.heap u1 u2).objs.size = some _ := Heap.get?_push_of_some _ (Heap.get?_push_size _ rfl)
  have e3 : (zA5 t1 t2 s.heap u1 u2).get? (zA2 t1 t2 s.heap u1 u2).objs.size = some _ := Heap.get?_push_of_some _ (Heap.get?_push_of_some _ (Heap.get?_push_size _ rfl))
  have e2 : (zA5 t1 t2 s.heap u1 u2).get? (zA1 t1 s.heap u1).objs.size = some (V4 t2 u2) := Heap.get?_push_of_some _ (Heap.get?_push_of_some _ (Heap.get?_push_of_some _ (Heap.get?_push_size _ rfl)))
  have e1 : (zA5 t1 t2 s.heap u1 u2).get? s.heap.objs.size = some (V4 t1 u1) := Heap.get?_push_of_some _ (Heap.get?_push_of_some _ (Heap.get?_push_of_some _ (Heap.get?_push_of_some _ (Heap.get?_push_size _ rfl))))
  show _ /\ _
  rw [w2, w3, w4] at e5
  rw [w1, w2] at e3
  rw [w3] at e4
  rw [w1] at e2
  rw [w4]
  exact ⟨⟨_, e5, rfl⟩, c _ e5 e3 e4 (Abx e1) (Abx e2) fun b o x => Heap.get?_push_of_some _ (Heap.get?_push_of_some _ (Heap.get?_push_of_some _ (Heap.get?_push_of_some _ (Heap.get?_push_of_some _ x))))⟩
def SqB (t : Bool) (K : PySem.W.Frag) (H : Hp) (a : Addr) (xs : List V) : Prop := if t = true then SqT K H a xs else SqL K H a xs
theorem Inv.sqB {X : Cx} {pins : List (Addr × Obj)} {σ : St} {H : Hp} {s : Shared} {t : Bool} {a : Addr} {xs : List V} (I : Inv X pins σ H s) (h : SqB t X.K H a xs) : ∃ its : List Value, Vals xs its /\ Sq1 t s.heap a its.toArray := by
  cases t
  . obtain ⟨its, r, p, _⟩ := I.list h
    exact ⟨its, r, p.isList⟩
  . obtain ⟨its, r, p, _⟩ := I.tuple h
    exact ⟨its, r, p⟩
theorem Inv.sqB_inj {X : Cx} {pins : List (Addr × Obj)} {σ : St} {H : Hp} {s : Shared} {t : Bool} {a : Addr} {xs ys : List V} (I : Inv X pins σ H s) (h : SqB t X.K H a xs) (h' : SqB t X.K H a ys) : xs = ys := by
  cases t
  . exact I.list_inj h h'
  . exact I.tuple_inj h h'
def Ai0 (t1 t2 : Bool) (K : PySem.W.Frag) (a b : Addr) : It :=
  ⟨fun i H => ∃ xs ys x y, SqB t1 K H a xs /\ SqB t2 K H b ys /\ xs[i]? = some x /\ ys[i]? = some y,
   fun i H x H' => ∃ p u v, (∀ xs, SqB t1 K H a xs -> xs[i]? = some u) /\ (∀ ys, SqB t2 K H b ys -> ys[i]? = some v) /\ H p = none /\ x = .ref p /\ H' = upd H p (.tup [u, v]),
   fun i H => ∃ xs ys, SqB t1 K H a xs /\ SqB t2 K H b ys /\ (xs.length <= i \/ ys.length <= i)⟩
theorem Aa7 {P : Program} {w : World} {K : PySem.W.Frag} {el : List Expr} {x1} {tp : Pos} (t1 t2 : Bool) (a b z TI TO i1 i2 : Addr) (D : ZipApart z TI TO i1 i2 a b) :
    Turn P w K (.Tuple el x1 tp) (Ai0 t1 t2 K a b) [z, TI, TO, i1, i2] z (fun i h => IsZip h z TI TO .none /\ IsPair h TI (.ref i1) (.ref i2) /\ (∃ c d, IsPair h TO c d) /\ It1 t1 h i1 a i /\ It1 t2 h i2 b i) where
  mem := by simp
  obj := fun i h st c hc => by
    obtain ⟨hz, hTI, ⟨u, v, hTO⟩, h1, h2⟩ := st
    simp only [List.mem_cons, List.not_mem_nil, or_false] at hc
    rcases hc with rfl | rfl | rfl | rfl | rfl
    . exact ⟨_, hz, fun v z => by cases (show Data.fields _ = Data.cell v from z)⟩
    . exact ⟨_, hTI, fun v z => by cases (show Data.seq _ _ = Data.cell v from z)⟩
    . exact ⟨_, hTO, fun v z => by cases (show Data.seq _ _ = Data.cell v from z)⟩
    . exact h1.there
    . exact h2.there
  keep := fun i h h' st k => by
    obtain ⟨hz, hTI, ⟨u, v, hTO⟩, h1, h2⟩ := st
    exact ⟨k z (by simp) _ hz, k TI (by simp) _ hTI, ⟨u, v, k TO (by simp) _ hTO⟩, h1.to fun o e => k i1 (by simp) _ e, h2.to fun o e => k i2 (by simp) _ e⟩
  item := by
    intro X hP hw hK hc i pins s σ H E I hf st hg
    subst hP hw hK
    obtain ⟨xs, ys, x, y, hqx, hqy, hx, hy⟩ := hg
    obtain ⟨its, rv, p⟩ := I.sqB hqx
    obtain ⟨its2, rv2, p2⟩ := I.sqB hqy
    obtain ⟨u, hu, ru⟩ := rv.get hx
    obtain ⟨v, hv, rv'⟩ := rv2.get hy
    obtain ⟨hz, hTI, ⟨c, d, hTO⟩, h1, h2⟩ := st
    refine Aao D hz hTI hTO h1 h2 p p2 (x := u) (y := v) (by simpa using hu) (by simpa using hv) fun g a1 a2 a3 a4 a5 a6 hk => ⟨_, rfl, ?_⟩
    refine wpAny_letOwnedTupleGo_zip a1 fun g2 hz2 sb2 => ?_
    replace sb2 : Heap.SameBut z g g2 := sb2
    have lt : ∀ b ∈ [z, TI, TO, i1, i2], b ≠ s.heap.objs.size := fun b hb => by
      obtain ⟨o1, e1, _⟩ := h1.there
      obtain ⟨o2, e2, _⟩ := h2.there
      simp only [List.mem_cons, List.not_mem_nil, or_false] at hb
      rcases hb with rfl | rfl | rfl | rfl | rfl
      . exact Nat.ne_of_lt (Heap.lt_size hz)
      . exact Nat.ne_of_lt (Heap.lt_size hTI)
      . exact Nat.ne_of_lt (Heap.lt_size hTO)
      . exact Nat.ne_of_lt (Heap.lt_size e1)
      . exact Nat.ne_of_lt (Heap.lt_size e2)
    have hn : H s.heap.objs.size = none := I.fresh
    have I1 : Inv X pins σ (upd H s.heap.objs.size (.tup [x, y])) { s with heap := s.heap.push { cls := .type "tuple", data := .seq #[u, v] }, toks := s.toks } :=
      I.laid (fun b o q => Heap.get?_push_of_some _ q) (Nat.le_refl _) ⟨by show 2 <= sizeLine; decide, [u, v], .cons ru (.cons rv' .nil), ⟨_, Heap.get?_push_size _ rfl, rfl, _, rfl⟩⟩
    have fp' : ∀ b ∈ [z, TI, TO, i1, i2], Vt X pins (upd H s.heap.objs.size (.tup [x, y])) b := fun b hb =>
      ⟨by rw [Cm (lt b hb)]; exact (hf b hb).1, (hf b hb).2⟩
    have I2 := I1.turnL (h' := g2) (t' := s.toks) (fp := [z, TI, TO, i1, i2]) (fun b o hb q => by
      have n1 : b ≠ z := fun e => hb (by simp [e])
      refine (sb2.2 b n1).trans ?_
      rcases Heap.get?_push_cases q with ⟨rfl, rfl⟩ | q0
      . exact a5
      . exact hk b o n1 (fun e => hb (by simp [e])) (fun e => hb (by simp [e])) (fun e => hb (by simp [e])) q0) fp'
    refine ⟨.ref s.heap.objs.size, _, I2, rfl, ⟨_, x, y, fun zs hz => by rw [I.sqB_inj hz hqx]; exact hx, fun zs hz => by rw [I.sqB_inj hz hqy]; exact hy, hn, rfl, rfl⟩, ⟨hz2, ?_, ⟨u, v, sb2.extBut _ _ D.TOz a2⟩, a3.ext sb2.extBut D.i1z, a4.ext sb2.extBut D.i2z⟩, fun b hb => (fp' b hb).1⟩
    exact sb2.extBut _ _ D.TIz (hk _ _ D.TIz D.TITO D.TIi1 D.TIi2 hTI)
  done := by
    intro X hP hw hK hc i pins s σ H E I hf st hg
    subst hP hw hK
    obtain ⟨xs, ys, hqx, hqy, hxy⟩ := hg
    obtain ⟨its, rv, p⟩ := I.sqB hqx
    obtain ⟨its2, rv2, p2⟩ := I.sqB hqy
    obtain ⟨hz, hTI, ⟨c, d, hTO⟩, h1, h2⟩ := st
    have l1 := rv.length
    have l2 := rv2.length
    exact Aaf (I.ok.hd hc) D hz hTI hTO h1 h2 p p2 (by
      rcases hxy with h | h
      . exact .inl (by simp; omega)
      . exact .inr (by simp; omega)) fun g hk => ⟨rfl, I.turnL (t' := s.toks) (fp := [z, TI, TO, i1, i2]) (fun b o hb q => hk b o (fun e => hb (by simp [e])) (fun e => hb (by simp [e])) (fun e => hb (by simp [e])) (fun e => hb (by simp [e])) q) hf⟩
  self := fun _ _ _ _ _ st h => wpAny_pyIter_zip st.1 h
section
variable {X : Cx} {a b : Expr} {ta : TA} {el : List Expr} {x1} {tp p pos : Pos}
def Agi (t1 t2 : Bool) (K : PySem.W.Frag) (ta : TA) : TI := fun σ H R => ta σ H fun vs H1 => ∃ a b, vs = [.ref a, .ref b] /\ (∃ xs, SqB t1 K H1 a xs) /\ (∃ ys, SqB t2 K H1 b ys) /\ R (Ai0 t1 t2 K a b) H1
theorem Qq (t1 t2 : Bool) (hg : Gl X "zip") (hm : X.mg "zip" = none) (ha : PA X [a, b] ta) (hs : starEach [a, b] X.env = [(false, eval a X.env), (false, eval b X.env)] := by rfl) (hs2 : starEach [b] X.env = [(false, eval b X.env)] := by rfl) :
    PI X (.Tuple el x1 tp) (.Call (.Name "zip" p) [a, b] [] pos) (Agi t1 t2 X.K ta) := by
  intro pins s σ H R I h
  refine Call_ (Ow I hg hm boot_zip (PyProof.Rows.callWith_type1 (thn (ha pos pins s σ H _ I h) fun us s1 ⟨vs, H1, I1, r1, q1⟩ => ?_) (by rw [hs, hs2]) (by rw [hs2]; rfl)))
  obtain ⟨u, v, rfl, ⟨xs, hqx⟩, ⟨ys, hqy⟩, q⟩ := q1
  obtain ⟨v1, v2, rfl, r1, r2⟩ := vals2 r1
  cases r1
  cases r2
  obtain ⟨its, rx, px⟩ := I1.sqB hqx
  obtain ⟨its2, ry, py⟩ := I1.sqB hqy
  have lt1 : u < s1.heap.objs.size := by
    cases t1
    . obtain ⟨o, e, _⟩ := (show s1.heap.IsList u _ from px)
      exact Heap.lt_size e
    . obtain ⟨o, e, _⟩ := (show s1.heap.IsTuple u _ from px)
      exact Heap.lt_size e
  have lt2 : v < s1.heap.objs.size := by
    cases t2
    . obtain ⟨o, e, _⟩ := (show s1.heap.IsList v _ from py)
      exact Heap.lt_size e
    . obtain ⟨o, e, _⟩ := (show s1.heap.IsTuple v _ from py)
      exact Heap.lt_size e
  refine Ab2 px py fun h' hz hTI hTO hi1 hi2 hk => ?_
  have I2 : Inv X pins σ H1 { s1 with heap := h' } := I1.kept (t' := s1.toks) fun c o' e => hk c o' e
  refine wpAny_pyIter_zip hz ⟨s1.heap.objs.size + 4, [s1.heap.objs.size + 4, s1.heap.objs.size + 2, s1.heap.objs.size + 3, s1.heap.objs.size, s1.heap.objs.size + 1], _, _, H1, rfl, I2, Aa7 t1 t2 u v _ _ _ _ _ (zipApart_new lt1 lt2), ⟨hz, hTI, ⟨_, _, hTO⟩, hi1, hi2⟩, fun c hcm => ?_, q⟩
  have hge : s1.heap.objs.size <= c := by
    simp only [List.mem_cons, List.not_mem_nil, or_false] at hcm
    rcases hcm with rfl | rfl | rfl | rfl | rfl
    . exact Nat.le_add_right _ 4
    . exact Nat.le_add_right _ 2
    . exact Nat.le_add_right _ 3
    . exact Nat.le_refl _
    . exact Nat.le_add_right _ 1
  exact I1.fpOk hge (I1.hok.fresh hge)
end
theorem Du {t1 t2 : Bool} {K : PySem.W.Frag} {ta : TA} {σ : St} {H : Hp} {R : It -> Hp -> Prop} : Agi t1 t2 K ta σ H R = ta σ H (fun vs H1 => ∃ a b, vs = [.ref a, .ref b] /\ (∃ xs, SqB t1 K H1 a xs) /\ (∃ ys, SqB t2 K H1 b ys) /\ R (Ai0 t1 t2 K a b) H1) := rfl
theorem Age {t1 t2 : Bool} {K : PySem.W.Frag} {σ : St} {H : Hp} {g : TG} {tb : TS} {D : Ends} {a b : Addr} {xs ys : List V} (n : Nat) (hn : n = min xs.length ys.length) (Pv : Nat -> St -> Hp -> Prop) (h0 : Pv 0 σ H)
    (hw : ∀ i σ H, Pv i σ H -> SqB t1 K H a xs /\ SqB t2 K H b ys)
    (hs : ∀ i σ H p, i < n -> Pv i σ H -> H p = none -> g (.ref p) σ (upd H p (.tup [xs.getD i .non, ys.getD i .non])) fun σ2 H2 => tb { D with nx := Pv (i + 1), ct := Pv (i + 1), bk := D.nx } σ2 H2) (hd : ∀ σ H, Pv n σ H -> D.nx σ H) : FI (Ai0 t1 t2 K a b) g tb D σ H := by
  refine ⟨fun i m σ H => m = n - i /\ i <= n /\ Pv i σ H, ⟨n, by simp, Nat.zero_le _, h0⟩, ?_⟩
  rintro i m σ H ⟨rfl, hi, p⟩
  obtain ⟨wx, wy⟩ := hw _ _ _ p
  by_cases he : i = n
  . subst he
    exact .inl ⟨⟨xs, ys, wx, wy, by omega⟩, hd _ _ p⟩
  . have hl : i < n := by omega
    have ex : xs[i]? = some (xs.getD i .non) := by rw [List.getD_eq_getElem?_getD, List.getElem?_eq_getElem (by omega)]; rfl
    have ey : ys[i]? = some (ys.getD i .non) := by rw [List.getD_eq_getElem?_getD, List.getElem?_eq_getElem (by omega)]; rfl
    refine .inr ⟨⟨xs, ys, _, _, wx, wy, ex, ey⟩, Pv (i + 1), fun σ' H' p' => ⟨n - (i + 1), by omega, rfl, hl, p'⟩, fun x H3 y => ?_⟩
    obtain ⟨q, u, v, hu, hv, hq, rfl, rfl⟩ := y
    have eu := hu _ wx
    have ev := hv _ wy
    rw [ex] at eu
    rw [ey] at ev
    cases eu
    cases ev
    exact hs i σ H q hl p hq
end L2
namespace L2
open PySem PySem.Spec PyProof.Rows
set_option maxRecDepth 100000
abbrev TB := St -> Hp -> (St -> Hp -> Prop) -> XK -> Prop
def BT (X : Cx) (st : Stmt) (t : TB) : Prop := ∀ (pins : List (Addr × Obj)) (s : Shared) (σ : St) (H : Hp) (N : St -> Hp -> Prop) (E : XK) (XE : Value -> Shared -> Prop) (R : Flow -> Shared -> Prop), Inv X pins σ H s -> t σ H N E ->
  (∀ s1 H1 e s', Inv X pins σ H1 s1 -> CXE X.prog X.w X.stack H1 s1 E e s' -> XE e s') -> (∀ σ' H1 s1, N σ' H1 -> Inv X pins σ' H1 s1 -> R .next s1) -> wpAny (model X.prog X.w) X.A (exec st X.env) R XE s
def Aft (sp : Sp) (g : V -> St -> St) (ta : TA) : TB := fun σ H N E => ta σ H fun vs H1 => sp vs H1 (fun v H2 => N (g v σ) H2) E
def bIf (tc : TT) (t u : TB) : TB := fun σ H N E => tc σ H fun b H1 => if b = true then t σ H1 N E else u σ H1 N E
def Agf (C : Addr) (i : Nat) (tb : TB) (ts : Addr -> Obj -> TS) : TS := fun D σ H => tb σ H (fun σ' H' => D.nx σ' H')
  (fun c _ H2 => c = .ref C /\ ∀ x oe, oe.cls = .ref C -> ts x oe { nx := fun σ' H' => D.nx (σ'.set i none) H', rt := D.rt, bk := fun σ' H' => D.bk (σ'.set i none) H', ct := fun σ' H' => D.ct (σ'.set i none) H' } (σ.set i (some (.ref x))) H2)
theorem Ea {sp : Sp} {g : V -> St -> St} {ta : TA} {σ : St} {H : Hp} {N : St -> Hp -> Prop} {E : XK} : Aft sp g ta σ H N E = ta σ H fun vs H1 => sp vs H1 (fun v H2 => N (g v σ) H2) E := rfl
theorem Kq {tc : TT} {t u : TB} {σ : St} {H : Hp} {N : St -> Hp -> Prop} {E : XK} : bIf tc t u σ H N E = tc σ H fun b H1 => if b = true then t σ H1 N E else u σ H1 N E := rfl
theorem Ga {C : Addr} {i : Nat} {tb : TB} {ts : Addr -> Obj -> TS} {D : Ends} {σ : St} {H : Hp} : Agf C i tb ts D σ H = tb σ H (fun σ' H' => D.nx σ' H')
  (fun c _ H2 => c = .ref C /\ ∀ x oe, oe.cls = .ref C -> ts x oe { nx := fun σ' H' => D.nx (σ'.set i none) H', rt := D.rt, bk := fun σ' H' => D.bk (σ'.set i none) H', ct := fun σ' H' => D.ct (σ'.set i none) H' } (σ.set i (some (.ref x))) H2) := rfl
section
variable {X : Cx} {C : Addr} {cx n f : Str} {np p cpos pos hpos : Pos} {b0 st : Stmt} {suite : List Stmt} {i k : Nat} {ts : Addr -> Obj -> TS} {ps : List Str} {sp : Sp} {a : Expr} {as : List Expr} {ta : TA} {g : V -> St -> St} {tb : TB}
theorem Ig (Ca : Nq X.prog X.w X.K X.mg X.base k f ps sp) (hr : Kg k X.A) (ha : PA X.nox (a :: as) ta) (hb : X5 X st (.Call (.Name f p) (a :: as) [] cpos) g)
    (hg : Gl X f := by rfl) (hdb : (f == ("__debug__" : Str)) = false := by decide) (he : starEach (a :: as) X.env = (false, eval a X.env) :: starEach as X.env := by rfl) (hpl : (backTo cpos (starEach as X.env)).any (·.1) = false := by rfl) : BT X st (Aft sp g ta) := by
  intro pins s σ H N E XE R I h hx hn
  exact hb pins s σ H XE (fun v H2 => N (g v σ) H2) R I (tried Ca hr ha I h hx hg hdb he hpl) fun v H1 s1 q I1 => hn _ _ _ q I1
theorem Zq {c : Expr} {x y : Stmt} {tc : TT} {t u : TB} (hc : PT X.nox c tc) (hx : BT X x t) (hy : BT X y u) : BT X (.If c [x] [y] pos) (bIf tc t u) := by
  intro pins s σ H N E XE R I h hE hn
  refine wpAny_If (wpAny_mono (hc pins s σ H _ (I.wish _) h) (fun d s1 ⟨H1, I1, q1⟩ => ?_) fun _ _ z => False.elim z)
  have I1 : Inv X pins σ H1 s1 := I1.unwish
  cases d with
  | true => exact wpAny_execs_cons (hx pins s1 σ H1 N E XE _ I1 q1 hE fun σ' H2 s2 n I2 => wpAny_execs_nil (hn σ' H2 s2 n I2))
  | false => exact wpAny_execs_cons (hy pins s1 σ H1 N E XE _ I1 q1 hE fun σ' H2 s2 n I2 => wpAny_execs_nil (hn σ' H2 s2 n I2))
theorem Hx (hb : BT X st tb) (hq : V3 X.K C) (hm : X.mg cx = some (.ref C))
    (hs : ∀ x oe, oe.cls = .ref C -> PSs (X.caught x oe) (b0 :: suite) (ts x oe)) (hN : X.N.Nodup) (hi : X.N[i]? = some n) (hst : X.stack = X.env :: X.outer := by rfl) (hf : X.env.frame = some X.env.locals := by rfl) (hgc : Gl X cx := by rfl) (hdc : (cx == ("__debug__" : Str)) = false := by decide)
    (hn : X.env.kindOf n = some .local := by rfl) (hln : Loc X.env.scope n := by exact Or.inl rfl) (hfn : X.env.scope.names.lookup n = some .local := by rfl) :
    PS X (.Try [st] [.ExceptHandler (some (.Name cx np)) (some n) (b0 :: suite) hpos] [] [] pos) (Agf C i tb ts) := by
  intro pins s σ H D I h
  refine wpAny_Try_except (wpAny_execs_cons (hb pins s σ H _ _ _ _ I h (fun s1 H1 e s' I1 z => ?_) fun σ' H1 s1 q I1 => wpAny_execs_nil (wpAny_execs_nil ⟨_, _, I1, q⟩)))
  refine looked I1 z hq hm hst hf hgc hdc fun x oe H' h6 g' d' t' o' hc q J B a0 h5 fl nxt => ?_
  refine codeAny_handlers_suite_as ?_
  refine lands_againW fl fun h7 fl7 up7 => ?_
  obtain ⟨oe', hc', J7⟩ := nxt h7 fl7 up7
  refine Nt (X := X.caught x oe') J7 hN hi hln (v := .ref x) (u := .ref x) rfl (fun s8 I8 => ?_) (.inr hfn)
  refine wpAny_mono (hs x oe' hc' pins s8 _ H' _ I8 (q x oe' hc')) (fun fl s9 q9 => ?_) fun _ _ z => False.elim z
  have go : ∀ {σ' : St} {H'' : Hp} {R : Unit -> Shared -> Prop}, Inv (X.caught x oe') pins σ' H'' s9 -> (∀ s10, Inv X pins (σ'.set i none) H'' s10 -> R () s10) -> wpAny (model X.prog X.w) X.A (do bindName X.env n .none; unbindBehindTheSuite X.env n hpos) R X.xe s9 := fun {σ' H'' R} J k => by
    have J' := J.uncaught I.ok
    obtain ⟨m, hn', hl⟩ := id J'.loc
    refine wpAny_nameGoes_keeps hn hn' (by rw [I.ok.kind]; rfl) fun h' v hv hsb => k _ ?_
    exact J'.gone hN hi hl hn' hv hsb
  cases fl with
  | next => obtain ⟨σ', H'', J9, q⟩ := q9; exact go J9 fun s10 J => ⟨_, _, J, q⟩
  | brk => obtain ⟨σ', H'', J9, q⟩ := q9; exact go J9 fun s10 J => ⟨_, _, J, q⟩
  | cont => obtain ⟨σ', H'', J9, q⟩ := q9; exact go J9 fun s10 J => ⟨_, _, J, q⟩
  | ret u => obtain ⟨v, σ', H'', J9, r, q⟩ := q9; exact go J9 fun s10 J => ⟨v, _, _, J, r, q⟩
end
end L2
namespace L2.S
open PySem L2
@[irreducible] def PE (X : Cx) (e : Expr) (t : TE) : Prop := L2.PE X e t
@[irreducible] def PT (X : Cx) (e : Expr) (t : TT) : Prop := L2.PT X e t
@[irreducible] def PW (X : Cx) (e : Expr) (t : TT) : Prop := L2.PW X e t
@[irreducible] def PA (X : Cx) (es : List Expr) (t : TA) : Prop := L2.PA X es t
@[irreducible] def PS (X : Cx) (st : Stmt) (t : TS) : Prop := L2.PS X st t
@[irreducible] def PSs (X : Cx) (st : List Stmt) (t : TS) : Prop := L2.PSs X st t
@[irreducible] def PG (X : Cx) (target : Expr) (t : TG) : Prop := L2.PG X target t
@[irreducible] def PGs (X : Cx) (ts : List Expr) (t : TGs) : Prop := L2.PGs X ts t
@[irreducible] def PI (X : Cx) (tg iter : Expr) (wi : TI) : Prop := L2.PI X tg iter wi
@[irreducible] def PO (X : Cx) (e : Option Expr) (t : TO) : Prop := L2.PO X e t
@[irreducible] def PTs (X : Cx) (ifs : List Expr) (t : TT) : Prop := L2.PTs X ifs t
theorem out {X : Cx} {b : List Stmt} {t : TS} (h : PSs X b t) : L2.PSs X b t := by unfold PSs at h; exact h
theorem pv : ∀ {X : Cx} (i : Nat) {x : Str} {pos : Pos}, autoParam ((Cx.N X)[i]? = Option.some x) L2.pv._auto_1 -> autoParam (Vis (Env.scope (Cx.env X)) x) L2.pv._auto_2 -> autoParam ((x == ("__debug__" : Str)) = Bool.false) L2.pv._auto_3 -> autoParam ((x == ("__classdict__" : Str)) = Bool.false) L2.pv._auto_4 -> S.PE X (Expr.Name x pos) (Ael i) := by with_unfolding_all exact @L2.pv
theorem Iv : ∀ {X : Cx} {x : Str} {v : V} {u : Value} {pos : Pos}, Gl X x -> Cx.mg X x = Option.none -> bootBuiltins x = Option.some u -> RelV v u -> autoParam (x ≠ ("__name__" : Str)) L2.Iv._auto_1 -> autoParam ((x == ("__debug__" : Str)) = Bool.false) L2.Iv._auto_2 -> S.PE X (Expr.Name x pos) (tC v) := by with_unfolding_all exact @L2.Iv
theorem Jy : ∀ {X : Cx} {x : Str} {v : V} {u : Value} {pos : Pos}, Gl X x -> Cx.mg X x = Option.some u -> RelV v u -> autoParam ((x == ("__debug__" : Str)) = Bool.false) L2.Jy._auto_1 -> S.PE X (Expr.Name x pos) (tC v) := by with_unfolding_all exact @L2.Jy
theorem Ad : ∀ {X : Cx} {i : Int} {j : Nat} {pos : Pos}, S.PE X (Expr.Constant (Const.int i) j pos) (tC (V.int i)) := by with_unfolding_all exact @L2.Ad
theorem Li : ∀ {X : Cx} {b : Bool} {j : Nat} {pos : Pos}, S.PE X (Expr.Constant (Const.bool b) j pos) (tC (V.bl b)) := by with_unfolding_all exact @L2.Li
theorem Sy : ∀ {X : Cx} {j : Nat} {pos : Pos}, S.PE X (Expr.Constant Const.none j pos) (tC V.non) := by with_unfolding_all exact @L2.Sy
theorem Qj : ∀ {X : Cx} {x : Str} {j : Nat} {pos : Pos}, S.PE X (Expr.Constant (Const.str x) j pos) (tC (V.str x)) := by with_unfolding_all exact @L2.Qj
theorem Ak : ∀ {X : Cx} {a b : Expr} {ta tb : TE} {pos : Pos} {op : Operator} {r : R2}, OpR X (binaryOp op) r -> S.PE X a ta -> S.PE X b tb -> S.PE X (Expr.BinOp a op b pos) (tOp r ta tb) := by with_unfolding_all exact @L2.Ak
theorem Vj : ∀ {X : Cx} {a : Expr} {ta : TE} {pos : Pos}, S.PE X a ta -> S.PE X (Expr.UnaryOp UnaryOp.Not a pos) (Ag4 ta) := by with_unfolding_all exact @L2.Vj
theorem Dr : ∀ {X : Cx} {a : Expr} {ta : TE} {pos : Pos} {op : UnaryOp} {r : V -> Hp -> VK -> Prop}, UnR X (unaryOp op) r -> S.PE X a ta -> S.PE X (Expr.UnaryOp op a pos) (tUn r ta) := by with_unfolding_all exact @L2.Dr
theorem Hv : ∀ {X : Cx} {a b : Expr} {ta tb : TE} {pos : Pos} {op : CmpOp} {r : R2}, OpR X (compareOp op) r -> S.PE X a ta -> S.PE X b tb -> behindInMarks op b = Bool.false -> S.PE X (Expr.Compare a [op] [b] pos) (tOp r ta tb) := by with_unfolding_all exact @L2.Hv
theorem Qo : ∀ {X : Cx} {a b : Expr} {ta tb : TE} {pos : Pos} {rest : List Expr}, S.PE X a ta -> S.PE X (Expr.BoolOp BoolOp.And (b :: rest) pos) tb -> S.PE X (Expr.BoolOp BoolOp.And (a :: b :: rest) pos) (Ag5 ta tb) := by with_unfolding_all exact @L2.Qo
theorem Af7 : ∀ {X : Cx} {a b : Expr} {ta tb : TE} {pos : Pos} {rest : List Expr}, S.PE X a ta -> S.PE X (Expr.BoolOp BoolOp.Or (b :: rest) pos) tb -> S.PE X (Expr.BoolOp BoolOp.Or (a :: b :: rest) pos) (Aju ta tb) := by with_unfolding_all exact @L2.Af7
theorem Ss : ∀ {X : Cx} {a : Expr} {pos : Pos} {op : BoolOp} {t : TE}, S.PE X a t -> S.PE X (Expr.BoolOp op [a] pos) t := by with_unfolding_all exact @L2.Ss
theorem Nm : ∀ {X : Cx} {a b : Expr} {ta tb : TE} {pos : Pos} {tA : TT} {c : Expr}, S.PT X c tA -> S.PE X a ta -> S.PE X b tb -> S.PE X (Expr.IfExp c a b pos) (tIf tA ta tb) := by with_unfolding_all exact @L2.Nm
theorem Ar : ∀ {X : Cx} {es : List Expr} {t : TA} {pos : Pos} {x1 : Nat}, S.PA X es t -> S.PE X (Expr.Tuple es x1 pos) (Aj9 t) := by with_unfolding_all exact @L2.Ar
theorem Ht : ∀ {X : Cx} {es : List Expr} {t : TA} {pos : Pos}, S.PA X es t -> S.PE X (Expr.List es pos) (Ajg t) := by with_unfolding_all exact @L2.Ht
theorem Kf : ∀ {X : Cx} {e : Expr} {te : TE} {lo hi : Option Expr} {tl th : TO} {pos p2 : Pos} {r : V -> Option Int -> Option Int -> Hp -> VK -> Prop}, SlR X r -> S.PE X e te -> S.PO X lo tl -> S.PO X hi th -> S.PE X (Expr.Subscript e (Expr.Slice lo hi Option.none p2) pos) (tSl r te tl th) := by with_unfolding_all exact @L2.Kf
theorem N5 : ∀ {X : Cx}, S.PO X Option.none V6 := by with_unfolding_all exact @L2.N5
theorem Og : ∀ {X : Cx} {e : Expr} {te : TE}, S.PE X e te -> S.PO X (Option.some e) (Agy te) := by with_unfolding_all exact @L2.Og
theorem Bo : ∀ {X : Cx} {a b : Expr} {ta tb : TE} {pos : Pos} {r : R2}, IxR X r -> S.PE X a ta -> S.PE X b tb -> Aai b -> S.PE X (Expr.Subscript a b pos) (tOp r ta tb) := by with_unfolding_all exact @L2.Bo
theorem Jl : ∀ {X : Cx} {elt tg iter : Expr} {ifs : List Expr} {scope : Scope} {pos : Pos} {wi : TI} {g : TG} {tt : TT} {te : TE} {ts : List Str} {fs : List (Nat × Str)}, Cx.calm X = Bool.true -> Cq X ts fs scope -> S.PI X tg iter wi -> (∀ (ex : List Addr) (s : Shared) (H : Hp), S.PG (cxC X (cpN ts fs) scope ex s H) tg g) -> (∀ (ex : List Addr) (s : Shared) (H : Hp), S.PTs (cxC X (cpN ts fs) scope ex s H) ifs tt) -> (∀ (ex : List Addr) (s : Shared) (H : Hp), S.PE (cxC X (cpN ts fs) scope ex s H) elt te) -> autoParam (∀ (x : Value), foldedSetIterable iter (Cx.env X) x = Pure.pure x) L2.Jl._auto_1 -> S.PE X (Expr.ListComp elt [{ target := tg, iter := iter, ifs := ifs, is_async := (0 : Int) }] scope pos) (Y7 (List.length ts) fs wi g tt te) := by with_unfolding_all exact @L2.Jl
theorem Dk : ∀ {P : Program} {w : World} {K : W.Frag} {mg : Str -> Option Value} {base : Heap} {N : List Str} {qual : Str} {scope : Scope} {f : Addr} {cd : Value} {A : Around} {outer : List Env} {s0 : Shared} {H0 : Hp} {E : XK} {k : Nat} {x : Str} {ps : List Str} {sp : Sp} {p pos : Pos} {e : Expr} {es : List Expr} {t : TA}, Nq P w K mg base k x ps sp -> Kg k (Around.deeper A (PyProof.Rows.envOfC qual scope (Array.size (Heap.objs (Shared.heap s0))) f cd)) -> S.PA (Rq (CXE P w) P w K mg base N qual scope f cd A outer s0 H0 E) (e :: es) t -> autoParam (Gl (Rq (CXE P w) P w K mg base N qual scope f cd A outer s0 H0 E) x) L2.Dk._auto_1 -> autoParam ((x == ("__debug__" : Str)) = Bool.false) L2.Dk._auto_2 -> autoParam (starEach (e :: es) (PyProof.Rows.envOfC qual scope (Array.size (Heap.objs (Shared.heap s0))) f cd) = (Bool.false, eval e (PyProof.Rows.envOfC qual scope (Array.size (Heap.objs (Shared.heap s0))) f cd)) :: starEach es (PyProof.Rows.envOfC qual scope (Array.size (Heap.objs (Shared.heap s0))) f cd)) L2.Dk._auto_3 -> autoParam ((List.any (backTo pos (starEach es (PyProof.Rows.envOfC qual scope (Array.size (Heap.objs (Shared.heap s0))) f cd))) fun (x : Bool × Sem Value) ↦ Prod.fst x) = Bool.false) L2.Dk._auto_4 -> S.PE (Rq (CXE P w) P w K mg base N qual scope f cd A outer s0 H0 E) (Expr.Call (Expr.Name x p) (e :: es) [] pos) (Wj sp [] E t) := by with_unfolding_all exact @L2.Dk
theorem Dd : ∀ {X : Cx} {e : Expr} {es : List Expr} {t : TA} {x : Str} {p pos : Pos} {id : String} {r : List V -> Hp -> VK -> Prop}, Ik X (Value.builtin id) r -> Gl X x -> Cx.mg X x = Option.none -> bootBuiltins x = Option.some (Value.builtin id) -> S.PA X (e :: es) t -> autoParam (Dl e = Bool.true) L2.Dd._auto_1 -> autoParam (List.all es Dl = Bool.true) L2.Dd._auto_2 -> autoParam (x ≠ ("__name__" : Str)) L2.Dd._auto_3 -> autoParam ((x == ("__debug__" : Str)) = Bool.false) L2.Dd._auto_4 -> S.PE X (Expr.Call (Expr.Name x p) (e :: es) [] pos) (tCB r t) := by with_unfolding_all exact @L2.Dd
theorem Ft : ∀ {X : Cx} {e : Expr} {es : List Expr} {t : TA} {x : Str} {p pos : Pos} {T : String} {r : List V -> Hp -> VK -> Prop}, Ik X (Value.type T) r -> Gl X x -> Cx.mg X x = Option.none -> bootBuiltins x = Option.some (Value.type T) -> S.PA X (e :: es) t -> autoParam (Dl e = Bool.true) L2.Ft._auto_1 -> autoParam (List.all es Dl = Bool.true) L2.Ft._auto_2 -> autoParam (x ≠ ("__name__" : Str)) L2.Ft._auto_3 -> autoParam ((x == ("__debug__" : Str)) = Bool.false) L2.Ft._auto_4 -> S.PE X (Expr.Call (Expr.Name x p) (e :: es) [] pos) (tCB r t) := by with_unfolding_all exact @L2.Ft
theorem Ai : ∀ {X : Cx} {e : Expr} {es : List Expr} {t : TA} {x : Str} {p pos : Pos} {k : Nat} {ps : List Str} {sp : Sp}, Cal (Cx.prog X) (Cx.w X) (Cx.K X) (Cx.mg X) (Cx.base X) k x ps sp -> Kg k (Cx.A X) -> S.PA X (e :: es) t -> autoParam (Dl e = Bool.true) L2.Ai._auto_1 -> autoParam (List.all es Dl = Bool.true) L2.Ai._auto_2 -> autoParam (Gl X x) L2.Ai._auto_3 -> autoParam ((x == ("__debug__" : Str)) = Bool.false) L2.Ai._auto_4 -> S.PE X (Expr.Call (Expr.Name x p) (e :: es) [] pos) (Wj sp [] E0 t) := by with_unfolding_all exact @L2.Ai
theorem Y8 : ∀ {X : Cx} {i k : Nat} {a : Addr} {x y : Str} {ps : List Str} {sp : Sp} {p pos : Pos} {e : Expr} {es : List Expr} {t : TA}, Cal (Cx.prog X) (Cx.w X) (Cx.K X) (Cx.mg X) (Cx.base X) k y ps sp -> Cx.mg X y = Option.some (Value.ref a) -> Kg k (Cx.A X) -> S.PE X (Expr.Name x p) (Ael i) -> S.PA X (e :: es) t -> autoParam (Dl e = Bool.true) L2.Y8._auto_1 -> autoParam (List.all es Dl = Bool.true) L2.Y8._auto_2 -> S.PE X (Expr.Call (Expr.Name x p) (e :: es) [] pos) (tCV i a sp E0 t) := by with_unfolding_all exact @L2.Y8
theorem Nk : ∀ {X : Cx} {x : Str} {v : V} {pos : Pos}, Gl X x -> (∃ (u : Value), Cx.mg X x = Option.some u /\ RelV v u) -> autoParam ((x == ("__debug__" : Str)) = Bool.false) L2.Nk._auto_1 -> S.PE X (Expr.Name x pos) (tC v) := by with_unfolding_all exact @L2.Nk
theorem Rv : ∀ {X : Cx} {o e : Expr} {es : List Expr} {to : TE} {t : TA} {name : Str} {apos cpos : Pos} {T id : String} {r : V -> List V -> Hp -> VK -> Prop}, PlainAttrs T -> Slot T name id -> typeOf (Value.builtin id) = Pure.pure (Value.type "method_descriptor") -> MtR X id r -> S.PE X o to -> S.PA X (e :: es) t -> autoParam (attributeBase o name (Cx.env X) (eval o (Cx.env X)) = eval o (Cx.env X)) L2.Rv._auto_1 -> autoParam ((((List.all (backTo cpos (starEach (e :: es) (Cx.env X))) fun (x : Bool × Sem Value) ↦ !Prod.fst x) && List.all (backToKw cpos (keywordEach [] (Cx.env X))) fun (x : Option Str × Sem Value) ↦ Option.isSome (Prod.fst x)) && Decidable.decide ((List.length (e :: es) + List.length ([] : List Keyword) + if List.isEmpty ([] : List Keyword) = Bool.true then (0 : Nat) else (1 : Nat)) < (30 : Nat))) = Bool.true) L2.Rv._auto_2 -> autoParam ((Pos.endLine apos == Pos.line cpos) = Bool.true) L2.Rv._auto_3 -> autoParam (starEach (e :: es) (Cx.env X) = (Bool.false, eval e (Cx.env X)) :: starEach es (Cx.env X)) L2.Rv._auto_4 -> autoParam ((List.any (backTo cpos (starEach es (Cx.env X))) fun (x : Bool × Sem Value) ↦ Prod.fst x) = Bool.false) L2.Rv._auto_5 -> S.PE X (Expr.Call (Expr.Attribute o name apos) (e :: es) [] cpos) (tBM (Cx.K X) T r to t) := by with_unfolding_all exact @L2.Rv
theorem Ti : ∀ {X : Cx} {a : Expr} {ta : TA} {el : List Expr} {x1 : Nat} {tp p pos : Pos}, Gl X (("enumerate" : Str)) -> Cx.mg X (("enumerate" : Str)) = Option.none -> S.PA X [a] ta -> autoParam (starEach [a] (Cx.env X) = [(Bool.false, eval a (Cx.env X))]) L2.Ti._auto_1 -> S.PI X (Expr.Tuple el x1 tp) (Expr.Call (Expr.Name (("enumerate" : Str)) p) [a] [] pos) (iEn (Cx.K X) ta) := by with_unfolding_all exact @L2.Ti
theorem Qq : ∀ {X : Cx} {a b : Expr} {ta : TA} {el : List Expr} {x1 : Nat} {tp p pos : Pos} (t1 t2 : Bool), Gl X (("zip" : Str)) -> Cx.mg X (("zip" : Str)) = Option.none -> S.PA X [a, b] ta -> autoParam (starEach [a, b] (Cx.env X) = [(Bool.false, eval a (Cx.env X)), (Bool.false, eval b (Cx.env X))]) L2.Qq._auto_1 -> autoParam (starEach [b] (Cx.env X) = [(Bool.false, eval b (Cx.env X))]) L2.Qq._auto_2 -> S.PI X (Expr.Tuple el x1 tp) (Expr.Call (Expr.Name (("zip" : Str)) p) [a, b] [] pos) (Agi t1 t2 (Cx.K X) ta) := by with_unfolding_all exact @L2.Qq
theorem Adh : ∀ {X : Cx} {a : Expr} {ta : TA} {tg : Expr} {p pos : Pos}, Gl X (("reversed" : Str)) -> Cx.mg X (("reversed" : Str)) = Option.none -> S.PA X [a] ta -> autoParam (starEach [a] (Cx.env X) = [(Bool.false, eval a (Cx.env X))]) L2.Adh._auto_1 -> S.PI X tg (Expr.Call (Expr.Name (("reversed" : Str)) p) [a] [] pos) (iRv (Cx.K X) ta) := by with_unfolding_all exact @L2.Adh
theorem Mt : ∀ {X : Cx} {tg a b c : Expr} {ta : TA} {p pos : Pos}, Gl X (("range" : Str)) -> Cx.mg X (("range" : Str)) = Option.none -> S.PA X [a, b, c] ta -> autoParam (Dl a = Bool.true) L2.Mt._auto_1 -> autoParam (List.all [b, c] Dl = Bool.true) L2.Mt._auto_2 -> S.PI X tg (Expr.Call (Expr.Name (("range" : Str)) p) [a, b, c] [] pos) (Ag7 ta) := by with_unfolding_all exact @L2.Mt
theorem J4 : ∀ {X : Cx} {tg a : Expr} {ta : TA} {p pos : Pos}, Gl X (("range" : Str)) -> Cx.mg X (("range" : Str)) = Option.none -> S.PA X [a] ta -> autoParam (starEach [a] (Cx.env X) = [(Bool.false, eval a (Cx.env X))]) L2.J4._auto_1 -> S.PI X tg (Expr.Call (Expr.Name (("range" : Str)) p) [a] [] pos) (Afw ta) := by with_unfolding_all exact @L2.J4
theorem Oo : ∀ {X : Cx} {tg l : Expr} {tl : TE}, S.PE X l tl -> S.PI X tg l (Agx (Cx.K X) tl) := by with_unfolding_all exact @L2.Oo
theorem Q0 : ∀ {X : Cx} {tg l : Expr} {tl : TE}, S.PE X l tl -> S.PI X tg l (Aje (Cx.K X) tl) := by with_unfolding_all exact @L2.Q0
theorem Iu : ∀ {X : Cx}, S.PTs X [] Acz := by with_unfolding_all exact @L2.Iu
theorem W3 : ∀ {X : Cx} {c : Expr} {t : TT}, S.PT X c t -> S.PTs X [c] t := by with_unfolding_all exact @L2.W3
theorem Aj : ∀ {X : Cx} {a b : Expr} {ta tb : TE} {pos : Pos} {op : CmpOp} {r : R2}, OpR X (compareOp op) r -> S.PE X a ta -> S.PE X b tb -> behindInMarks op b = Bool.false -> S.PT X (Expr.Compare a [op] [b] pos) (Agg (tOp r ta tb)) := by with_unfolding_all exact @L2.Aj
theorem J2 : ∀ {X : Cx} {a : Expr} {pos : Pos} {tA : TT}, S.PT X a tA -> S.PT X (Expr.UnaryOp UnaryOp.Not a pos) (Aj6 tA) := by with_unfolding_all exact @L2.J2
theorem Vg : ∀ {X : Cx} {a b : Expr} {pos : Pos} {tA tB' : TT} {rest : List Expr}, S.PT X a tA -> S.PW X (Expr.BoolOp BoolOp.And (b :: rest) pos) tB' -> S.PW X (Expr.BoolOp BoolOp.And (a :: b :: rest) pos) (Ajc tA tB') := by with_unfolding_all exact @L2.Vg
theorem Ms : ∀ {X : Cx} {a b : Expr} {pos : Pos} {tA tB' : TT} {rest : List Expr}, S.PT X a tA -> S.PW X (Expr.BoolOp BoolOp.Or (b :: rest) pos) tB' -> S.PW X (Expr.BoolOp BoolOp.Or (a :: b :: rest) pos) (tOr tA tB') := by with_unfolding_all exact @L2.Ms
theorem Px : ∀ {X : Cx} {a : Expr} {pos : Pos} {tA : TT}, S.PT X a tA -> S.PW X (Expr.BoolOp BoolOp.And [a] pos) tA := by with_unfolding_all exact @L2.Px
theorem J1 : ∀ {X : Cx} {a : Expr} {pos : Pos} {tA : TT}, S.PT X a tA -> S.PW X (Expr.BoolOp BoolOp.Or [a] pos) tA := by with_unfolding_all exact @L2.J1
theorem O6 : ∀ {X : Cx} {e : Expr} {t : TT}, S.PW X e t -> S.PT X e t := by with_unfolding_all exact @L2.PW.pt
theorem Il : ∀ {X : Cx} {e : Expr} {t : TE}, S.PE X e t -> autoParam (∀ (whole : Sem Value), isTrue e (Cx.env X) whole = do let v <- whole; standAt (Expr.pos e); holding [v] (truthy v)) L2.Il._auto_1 -> S.PT X e (tB t) := by with_unfolding_all exact @L2.Il
theorem Ab : ∀ {X : Cx}, S.PA X [] Ajt := by with_unfolding_all exact @L2.Ab
theorem Aa : ∀ {X : Cx} {e : Expr} {es : List Expr} {te : TE} {t : TA}, S.PE X e te -> S.PA X es t -> autoParam (Dl e = Bool.true) L2.Aa._auto_1 -> S.PA X (e :: es) (Adu te t) := by with_unfolding_all exact @L2.Aa
theorem Bb : ∀ {X : Cx}, S.PSs X [] Agk := by with_unfolding_all exact @L2.Bb
theorem Ae : ∀ {X : Cx} {st : Stmt} {t : TS}, S.PS X st t -> S.PSs X [st] t := by with_unfolding_all exact @L2.Ae
theorem Ac : ∀ {X : Cx} {st : Stmt} {rest : List Stmt} {t u : TS}, S.PS X st t -> S.PSs X rest u -> S.PSs X (st :: rest) (Aiy t u) := by with_unfolding_all exact @L2.Ac
theorem Ax : ∀ {X : Cx} {pos : Pos} {i : Nat} {x : Str}, List.Nodup (Cx.N X) -> (Cx.N X)[i]? = Option.some x -> Loc (Env.scope (Cx.env X)) x -> ∀ (hf : autoParam (Cx.fn X x = Bool.true \/ List.lookup x (Scope.names (Env.scope (Cx.env X))) = Option.some NameKind.local) L2.Ax._auto_1), S.PG X (Expr.Name x pos) (Wx i) := by with_unfolding_all exact @L2.Ax
theorem Ek : ∀ {X : Cx}, S.PGs X [] Ajl := by with_unfolding_all exact @L2.Ek
theorem Bl : ∀ {X : Cx} {e : Expr} {es : List Expr} {t : TG} {u : TGs}, S.PG X e t -> S.PGs X es u -> autoParam (List.map (fun (x : Bool × (Value -> Sem Unit)) ↦ Prod.snd x) (assignEach (e :: es) (Cx.env X)) = assign e (Cx.env X) :: List.map (fun (x : Bool × (Value -> Sem Unit)) ↦ Prod.snd x) (assignEach es (Cx.env X))) L2.Bl._auto_1 -> S.PGs X (e :: es) (Ac1 t u) := by with_unfolding_all exact @L2.Bl
theorem Fz : ∀ {X : Cx} {pos : Pos} {es : List Expr} {k : Nat} {t : TGs} {n : Nat}, Cx.calm X = Bool.true -> S.PGs X es t -> autoParam (List.length (assignEach es (Cx.env X)) = n) L2.Fz._auto_1 -> autoParam (List.findIdx? (fun (x : Bool × (Value -> Sem Unit)) ↦ Prod.fst x) (assignEach es (Cx.env X)) = Option.none) L2.Fz._auto_2 -> S.PG X (Expr.Tuple es k pos) (Ajr (Cx.K X) n t) := by with_unfolding_all exact @L2.Fz
theorem Lz : ∀ {X : Cx} {pos : Pos} {o i : Expr} {to ti : TE} {t : Ait}, S.PE X o to -> S.PE X i ti -> Ajo X t -> autoParam (∀ (v : Value), assign (Expr.Subscript o i pos) (Cx.env X) v = do let ov <- holding [v] (eval o (Cx.env X)); let iv <- holding [v, ov] (eval i (Cx.env X)); standAt pos; holding [v, ov, iv] (setItem ov iv v); release [v, ov, iv] []) L2.Lz._auto_1 -> S.PG X (Expr.Subscript o i pos) (Ai4 to ti t) := by with_unfolding_all exact @L2.Lz
theorem M5 : ∀ {X : Cx} {st : Stmt}, S.PS X st Aeo := by with_unfolding_all exact @L2.M5
theorem Om : ∀ {X : Cx} {elt tg iter : Expr} {ifs : List Expr} {scope : Scope} {pos : Pos} {wi : TI} {g : TG} {tt : TT} {te : TE} {ts : List Str} {fs : List (Nat × Str)} {g' : TG} {y : Str} {py spos : Pos}, Cx.calm X = Bool.true -> Cq X ts fs scope -> S.PI X tg iter wi -> (∀ (ex : List Addr) (s : Shared) (H : Hp), S.PG (cxC X (cpN ts fs) scope ex s H) tg g) -> (∀ (ex : List Addr) (s : Shared) (H : Hp), S.PTs (cxC X (cpN ts fs) scope ex s H) ifs tt) -> (∀ (ex : List Addr) (s : Shared) (H : Hp), S.PE (cxC X (cpN ts fs) scope ex s H) elt te) -> S.PG X (Expr.Name y py) g' -> autoParam (swapsWith (Expr.ListComp elt [{ target := tg, iter := iter, ifs := ifs, is_async := (0 : Int) }] scope pos) (Option.some (Expr.Name y py)) (Pos.line spos) (Cx.env X) = Pure.pure Bool.true) L2.Om._auto_1 -> autoParam (∀ (x : Value), foldedSetIterable iter (Cx.env X) x = Pure.pure x) L2.Om._auto_2 -> S.PS X (Stmt.Assign [Expr.Name y py] (Expr.ListComp elt [{ target := tg, iter := iter, ifs := ifs, is_async := (0 : Int) }] scope pos) spos) (Agb (Y7 (List.length ts) fs wi g tt te) g') := by with_unfolding_all exact @L2.Om
theorem Ah : ∀ {X : Cx} {pos : Pos} {i : Nat} {x : Str} {e : Expr} {te : TE} {pos' : Pos}, List.Nodup (Cx.N X) -> (Cx.N X)[i]? = Option.some x -> Loc (Env.scope (Cx.env X)) x -> S.PE X e te -> autoParam (swapsWith e (Option.some (Expr.Name x pos')) (Pos.line pos) (Cx.env X) = Pure.pure Bool.false) L2.Ah._auto_1 -> autoParam (Cx.fn X x = Bool.true \/ List.lookup x (Scope.names (Env.scope (Cx.env X))) = Option.some NameKind.local) L2.Ah._auto_2 -> S.PS X (Stmt.Assign [Expr.Name x pos'] e pos) (Agb te (Wx i)) := by with_unfolding_all exact @L2.Ah
theorem Nf : ∀ {X : Cx} {pos : Pos} {i j : Nat} {x y : Str} {a b : Expr} {ta : TA} {px py pt : Pos} {kt k2 : Nat} {pt2 : Pos}, Cx.calm X = Bool.true -> List.Nodup (Cx.N X) -> (Cx.N X)[i]? = Option.some x -> (Cx.N X)[j]? = Option.some y -> i ≠ j -> List.lookup x (Scope.names (Env.scope (Cx.env X))) = Option.some NameKind.local -> List.lookup y (Scope.names (Env.scope (Cx.env X))) = Option.some NameKind.local -> S.PA X [a, b] ta -> swappedStores [Expr.Tuple [Expr.Name x px, Expr.Name y py] kt pt] (Expr.Tuple [a, b] k2 pt2) (Cx.env X) = Pure.pure (Option.some [x, y]) -> autoParam (swapsWithSole [Expr.Tuple [Expr.Name x px, Expr.Name y py] kt pt] (Expr.Tuple [a, b] k2 pt2) (Pos.line pos) (Cx.env X) = Pure.pure Bool.false) L2.Nf._auto_1 -> S.PS X (Stmt.Assign [Expr.Tuple [Expr.Name x px, Expr.Name y py] kt pt] (Expr.Tuple [a, b] k2 pt2) pos) (Ai7 i j ta) := by with_unfolding_all exact @L2.Nf
theorem Es : ∀ {X : Cx} {pos : Pos} {tg e : Expr} {te : TE} {g : TG}, S.PE X e te -> S.PG X tg g -> autoParam (swapsWithSole [tg] e (Pos.line pos) (Cx.env X) = Pure.pure Bool.false) L2.Es._auto_1 -> autoParam (swappedStores [tg] e (Cx.env X) = Pure.pure Option.none) L2.Es._auto_2 -> autoParam (List.map (fun (x : Bool × (Value -> Sem Unit)) ↦ Prod.snd x) (assignEach [tg] (Cx.env X)) = [assign tg (Cx.env X)]) L2.Es._auto_3 -> S.PS X (Stmt.Assign [tg] e pos) (Agb te g) := by with_unfolding_all exact @L2.Es
theorem Al : ∀ {X : Cx} {e : Expr} {te : TE} {pos : Pos}, S.PE X e te -> S.PS X (Stmt.Return (Option.some e) pos) (Aj3 te) := by with_unfolding_all exact @L2.Al
theorem Cy : ∀ {X : Cx} {t u : TS} {pos : Pos} {c : Expr} {a b : List Stmt} {tc : TT}, S.PT X c tc -> S.PSs X a t -> S.PSs X b u -> S.PS X (Stmt.If c a b pos) (Ai9 tc t u) := by with_unfolding_all exact @L2.Cy
theorem Em : ∀ {P : Program} {w : World} {K : W.Frag} {mg : Str -> Option Value} {base : Heap} {N : List Str} {qual : Str} {scope : Scope} {f : Addr} {cd : Value} {A : Around} {outer : List Env} {s0 : Shared} {H0 : Hp} {E : XK} {C : Addr} {x : Str} {np cpos pos : Pos} {e : Expr} {es : List Expr} {t : TA}, V3 K C -> mg x = Option.some (Value.ref C) -> S.PA (Rq (CXE P w) P w K mg base N qual scope f cd A outer s0 H0 E) (e :: es) t -> autoParam (Gl (Rq (CXE P w) P w K mg base N qual scope f cd A outer s0 H0 E) x) L2.Em._auto_1 -> autoParam ((x == ("__debug__" : Str)) = Bool.false) L2.Em._auto_2 -> autoParam (starEach (e :: es) (PyProof.Rows.envOfC qual scope (Array.size (Heap.objs (Shared.heap s0))) f cd) = (Bool.false, eval e (PyProof.Rows.envOfC qual scope (Array.size (Heap.objs (Shared.heap s0))) f cd)) :: starEach es (PyProof.Rows.envOfC qual scope (Array.size (Heap.objs (Shared.heap s0))) f cd)) L2.Em._auto_3 -> autoParam ((List.any (backTo cpos (starEach es (PyProof.Rows.envOfC qual scope (Array.size (Heap.objs (Shared.heap s0))) f cd))) fun (x : Bool × Sem Value) ↦ Prod.fst x) = Bool.false) L2.Em._auto_4 -> S.PS (Rq (CXE P w) P w K mg base N qual scope f cd A outer s0 H0 E) (Stmt.Raise (Option.some (Expr.Call (Expr.Name x np) (e :: es) [] cpos)) Option.none pos) (Aae C E t) := by with_unfolding_all exact @L2.Em
theorem Hx : ∀ {X : Cx} {C : Addr} {cx n : Str} {np pos hpos : Pos} {b0 st : Stmt} {suite : List Stmt} {i : Nat} {ts : Addr -> Obj -> TS} {tb : TB}, BT X st tb -> V3 (Cx.K X) C -> Cx.mg X cx = Option.some (Value.ref C) -> (∀ (x : Addr) (oe : Obj), Obj.cls oe = Value.ref C -> S.PSs (Cx.caught X x oe) (b0 :: suite) (ts x oe)) -> List.Nodup (Cx.N X) -> (Cx.N X)[i]? = Option.some n -> autoParam (Cx.stack X = Cx.env X :: Cx.outer X) L2.Hx._auto_1 -> autoParam (Env.frame (Cx.env X) = Option.some (Env.locals (Cx.env X))) L2.Hx._auto_2 -> autoParam (Gl X cx) L2.Hx._auto_3 -> autoParam ((cx == ("__debug__" : Str)) = Bool.false) L2.Hx._auto_4 -> autoParam (Env.kindOf (Cx.env X) n = Option.some NameKind.local) L2.Hx._auto_5 -> autoParam (Loc (Env.scope (Cx.env X)) n) L2.Hx._auto_6 -> autoParam (List.lookup n (Scope.names (Env.scope (Cx.env X))) = Option.some NameKind.local) L2.Hx._auto_7 -> S.PS X (Stmt.Try [st] [ExceptHandler.ExceptHandler (Option.some (Expr.Name cx np)) (Option.some n) (b0 :: suite) hpos] [] [] pos) (Agf C i tb ts) := by with_unfolding_all exact @L2.Hx
theorem Ig : ∀ {X : Cx} {f : Str} {p cpos : Pos} {st : Stmt} {k : Nat} {ps : List Str} {sp : Sp} {a : Expr} {as : List Expr} {ta : TA} {g : V -> St -> St}, Nq (Cx.prog X) (Cx.w X) (Cx.K X) (Cx.mg X) (Cx.base X) k f ps sp -> Kg k (Cx.A X) -> S.PA (Cx.nox X) (a :: as) ta -> X5 X st (Expr.Call (Expr.Name f p) (a :: as) [] cpos) g -> autoParam (Gl X f) L2.Ig._auto_1 -> autoParam ((f == ("__debug__" : Str)) = Bool.false) L2.Ig._auto_2 -> autoParam (starEach (a :: as) (Cx.env X) = (Bool.false, eval a (Cx.env X)) :: starEach as (Cx.env X)) L2.Ig._auto_3 -> autoParam ((List.any (backTo cpos (starEach as (Cx.env X))) fun (x : Bool × Sem Value) ↦ Prod.fst x) = Bool.false) L2.Ig._auto_4 -> BT X st (Aft sp g ta) := by with_unfolding_all exact @L2.Ig
theorem Zq : ∀ {X : Cx} {pos : Pos} {c : Expr} {x y : Stmt} {tc : TT} {t u : TB}, S.PT (Cx.nox X) c tc -> BT X x t -> BT X y u -> BT X (Stmt.If c [x] [y] pos) (bIf tc t u) := by with_unfolding_all exact @L2.Zq
theorem Hj : ∀ {X : Cx} {e : Expr} {pos : Pos}, autoParam (swapsWith e Option.none (Pos.line pos) (Cx.env X) = Pure.pure Bool.false) L2.Hj._auto_1 -> X5 X (Stmt.Expr e pos) e fun (x : V) (σ : St) ↦ σ := by with_unfolding_all exact @L2.Hj
theorem Aar : ∀ {X : Cx} {st : Stmt} {t : TS}, S.PS (Cx.nox X) st t -> S.PS X st t := by with_unfolding_all exact @L2.PS.nox
theorem Hg : ∀ {X : Cx} {pos : Pos} {c : Expr} {body : List Stmt} {tc : TT} {tb : TS}, PassesOwn (model (Cx.prog X) (Cx.w X)) (Cx.A X) (Cx.env X) (Cx.xe X) -> S.PT X c tc -> S.PSs X body tb -> S.PS X (Stmt.While c body [] pos) (Uz tc tb) := by with_unfolding_all exact @L2.Hg
theorem Ey : ∀ {X : Cx} {tg iter : Expr} {body : List Stmt} {wi : TI} {g : TG} {tb : TS} {pos : Pos}, PassesOwn (model (Cx.prog X) (Cx.w X)) (Cx.A X) (Cx.env X) (Cx.xe X) -> Cx.calm X = Bool.true -> S.PI X tg iter wi -> S.PG X tg g -> S.PSs X body tb -> autoParam (∀ (x : Value), foldedSetIterable iter (Cx.env X) x = Pure.pure x) L2.Ey._auto_1 -> S.PS X (Stmt.For tg iter body [] pos) (Aj4 wi g tb) := by with_unfolding_all exact @L2.Ey
theorem Oc : ∀ {X : Cx} {e : Expr} {te : TE} {pos : Pos}, S.PE X e te -> autoParam (swapsWith e Option.none (Pos.line pos) (Cx.env X) = Pure.pure Bool.false) L2.Oc._auto_1 -> S.PS X (Stmt.Expr e pos) (Ae9 te) := by with_unfolding_all exact @L2.Oc
theorem Bd {X : Cx} {b : List Stmt} {φ : TS -> Prop} (h : ∃ t, PSs X b t /\ φ t) : ∃ t, L2.PSs X b t /\ φ t := by
  obtain ⟨t, h1, h2⟩ := h
  exact ⟨t, out h1, h2⟩
end L2.S
namespace Z
def co (p : List Int) (i : Nat) : Int := p.getD i 0
theorem Ay (i : Nat) : co [] i = 0 := by simp [co]
theorem Bu (a : Int) (r : List Int) : co (a :: r) 0 = a := by simp [co]
theorem Bx (a : Int) (r : List Int) (i : Nat) : co (a :: r) (i + 1) = co r i := by simp [co]
theorem Bk {p : List Int} {i : Nat} (h : p.length <= i) : co p i = 0 := by simp [co, List.getD_eq_getElem?_getD, List.getElem?_eq_none h]
theorem Cp {p : List Int} {i : Nat} (h : i < p.length) : co p i = p[i] := by simp [co, List.getD_eq_getElem?_getD, List.getElem?_eq_getElem h]
def Tr (p : List Int) : Prop := p = [] \/ ∃ h : p ≠ [], p.getLast h ≠ 0
theorem Tr.lead {p : List Int} (h : Tr p) (n : p ≠ []) : co p (p.length - 1) ≠ 0 := by
  rcases h with h | ⟨h, z⟩
  . exact absurd h n
  . have hl : 0 < p.length := List.length_pos_iff.mpr h
    rw [Cp (by omega)]
    rw [List.getLast_eq_getElem] at z
    exact z
theorem Tr.of {p : List Int} (h : p = [] \/ co p (p.length - 1) ≠ 0) : Tr p := by
  by_cases n : p = []
  . exact .inl n
  . rcases h with h | h
    . exact .inl h
    . refine .inr ⟨n, ?_⟩
      have hl : 0 < p.length := List.length_pos_iff.mpr n
      rw [Cp (by omega)] at h
      rw [List.getLast_eq_getElem]
      exact h
theorem Tr.len {p q : List Int} (hp : Tr p) (e : ∀ i, co p i = co q i) : p.length <= q.length := by
  by_cases n : p = []
  . subst n; simp
  . by_cases h : p.length <= q.length
    . exact h
    . exfalso
      have z := hp.lead n
      rw [e, Bk (by omega)] at z
      exact z rfl
theorem Tr.ext {p q : List Int} (hp : Tr p) (hq : Tr q) (e : ∀ i, co p i = co q i) : p = q := by
  have l := Nat.le_antisymm (hp.len e) (hq.len fun i => (e i).symm)
  refine List.ext_getElem l fun i h1 h2 => ?_
  rw [<- Cp h1, <- Cp h2, e]
def trim : List Int -> List Int
  | [] => []
  | a :: r => match trim r with
    | [] => if a = 0 then [] else [a]
    | b :: t => a :: b :: t
theorem Uv (a : Int) (r : List Int) : trim (a :: r) = if trim r = [] /\ a = 0 then [] else a :: trim r := by
  rw [trim]
  split
  . rename_i h
    rw [h]
    by_cases ha : a = 0 <;> simp [ha]
  . rename_i b t h
    rw [h]
    simp
theorem Am : ∀ (p : List Int) (i : Nat), co (trim p) i = co p i
  | [], i => rfl
  | a :: r, i => by
    rw [Uv]
    split
    . rename_i h
      rw [Ay]
      cases i with
      | zero => rw [Bu, h.2]
      | succ i => rw [Bx, <- Am r i, h.1, Ay]
    . cases i with
      | zero => rw [Bu, Bu]
      | succ i => rw [Bx, Bx, Am r i]
theorem Av : ∀ p : List Int, Tr (trim p)
  | [] => .inl rfl
  | a :: r => by
    rw [Uv]
    split
    . exact .inl rfl
    . rename_i h
      refine .inr ⟨by simp, ?_⟩
      by_cases hr : trim r = []
      . simp only [hr, List.getLast_singleton]
        exact fun z => h ⟨hr, z⟩
      . rw [List.getLast_cons hr]
        rcases Av r with z | ⟨_, z⟩
        . exact absurd z hr
        . exact z
theorem Wa {p q : List Int} (hq : Tr q) (e : ∀ i, co q i = co p i) : trim p = q := (Av p).ext hq fun i => by rw [Am, e]
theorem Ql {p : List Int} (h : Tr p) : trim p = p := Wa h fun _ => rfl
theorem Ie (p : List Int) (n i : Nat) : co (p.take n) i = if i < n then co p i else 0 := by
  unfold co
  rw [List.getD_eq_getElem?_getD, List.getD_eq_getElem?_getD, List.getElem?_take]
  split <;> rfl
theorem Zy {p : List Int} {n : Nat} (h1 : ∀ i, n <= i -> co p i = 0) (h2 : n = 0 \/ co p (n - 1) ≠ 0) : trim p = p.take n := by
  refine Wa ?_ fun i => ?_
  . rcases h2 with h | h
    . subst h; exact .inl (by simp)
    . have hn : n <= p.length := by
        by_cases z : n <= p.length
        . exact z
        . exact absurd (Bk (by omega)) h
      refine .of ?_
      by_cases n0 : n = 0
      . left; subst n0; simp
      . right
        rw [List.length_take, Nat.min_eq_left hn, Ie, if_pos (by omega)]
        exact h
  . rw [Ie]
    split
    . rfl
    . rw [h1 i (by omega)]
def sh (f : Nat -> Int) : Nat -> Int
  | 0 => 0
  | i + 1 => f i
def mu : List Int -> (Nat -> Int) -> Nat -> Int
  | [], _ => fun _ => 0
  | a :: p, f => fun i => a * f i + sh (mu p f) i
theorem Aes (f g : Nat -> Int) : sh (fun i => f i + g i) = fun i => sh f i + sh g i := by funext i; cases i <;> simp [sh]
theorem Aef (c : Int) (f : Nat -> Int) : sh (fun i => c * f i) = fun i => c * sh f i := by funext i; cases i <;> simp [sh]
theorem Qz : sh (fun _ => 0) = fun _ => 0 := by funext i; cases i <;> rfl
theorem O4 : ∀ (p : List Int) (f g : Nat -> Int), mu p (fun i => f i + g i) = fun i => mu p f i + mu p g i
  | [], f, g => by funext i; simp [mu]
  | a :: p, f, g => by
    funext i
    simp only [mu]
    rw [O4 p f g, Aes]
    grind
theorem Io : ∀ (p : List Int) (c : Int) (f : Nat -> Int), mu p (fun i => c * f i) = fun i => c * mu p f i
  | [], c, f => by funext i; simp [mu]
  | a :: p, c, f => by
    funext i
    simp only [mu]
    rw [Io p c f, Aef]
    grind
theorem Qi : ∀ (p : List Int), mu p (fun _ => 0) = fun _ => 0
  | [] => rfl
  | a :: p => by
    funext i
    simp only [mu]
    rw [Qi p, Qz]
    simp
theorem Air : ∀ (p : List Int) (f : Nat -> Int), mu p (sh f) = sh (mu p f)
  | [], f => by funext i; cases i <;> rfl
  | a :: p, f => by
    funext i
    simp only [mu]
    rw [Air p f]
    cases i with
    | zero => simp [sh]
    | succ i => simp [sh]
theorem Aet (a : Int) (r : List Int) : co (a :: r) = fun i => (if i = 0 then a else 0) + sh (co r) i := by
  funext i
  cases i with
  | zero => simp [Bu, sh]
  | succ i => simp [Bx, sh]
theorem Xn : ∀ (p : List Int), mu p (fun i => if i = 0 then 1 else 0) = co p
  | [] => by funext i; simp [mu, co]
  | a :: p => by
    funext i
    simp only [mu]
    rw [Xn p, Aet]
    cases i <;> simp
theorem Yd (q : List Int) (a : Int) (p : List Int) : mu q (co (a :: p)) = fun i => a * co q i + sh (mu q (co p)) i := by
  rw [Aet, O4, Air]
  funext i
  congr 1
  have e : (fun i : Nat => if i = 0 then a else 0) = fun i => a * (if i = 0 then 1 else 0) := by funext i; cases i <;> simp
  rw [e, Io, Xn]
theorem Fe : ∀ p q : List Int, mu p (co q) = mu q (co p)
  | [], q => by
    have e : co [] = fun _ => 0 := by funext i; simp [co]
    rw [e, Qi]; rfl
  | a :: p, q => by rw [Yd, <- Fe p q]; rfl
theorem Qa (f : Nat -> Int) : ∀ (r : List Int), (∀ i, co r i = 0) -> mu r f = fun _ => 0
  | [], _ => rfl
  | a :: r, h0 => by
    have ha : a = 0 := by have := h0 0; rwa [Bu] at this
    funext i
    simp only [mu]
    rw [Qa f r fun i => by have := h0 (i + 1); rwa [Bx] at this, Qz, ha]
    simp
theorem Bm (f : Nat -> Int) : ∀ (r s : List Int), (∀ i, co r i = co s i) -> mu r f = mu s f
  | [], s, h0 => (Qa f s fun i => by rw [<- h0, Ay]).symm
  | a :: r, [], h0 => Qa f (a :: r) fun i => by rw [h0, Ay]
  | a :: r, b :: s, h0 => by
    have e0 : a = b := by have := h0 0; rwa [Bu, Bu] at this
    subst e0
    funext i
    simp only [mu]
    rw [Bm f r s fun i => by have := h0 (i + 1); rwa [Bx, Bx] at this]
def al : List Int -> List Int -> List Int
  | [], q => q
  | p, [] => p
  | a :: p, b :: q => (a + b) :: al p q
theorem Rh : ∀ (p q : List Int) (i : Nat), co (al p q) i = co p i + co q i
  | [], q, i => by simp [al, co]
  | a :: p, [], i => by simp [al, co]
  | a :: p, b :: q, 0 => by simp [al, Bu]
  | a :: p, b :: q, i + 1 => by simp [al, Bx, Rh p q i]
theorem Rm (f : Nat -> Int) : ∀ (p q : List Int), mu (al p q) f = fun i => mu p f i + mu q f i
  | [], q => by funext i; simp [al, mu]
  | a :: p, [] => by funext i; simp [al, mu]
  | a :: p, b :: q => by
    funext i
    simp only [al, mu]
    rw [Rm f p q, Aes]
    grind
theorem Bw (a : Int) (q : List Int) (i : Nat) : co (q.map (a * ·)) i = a * co q i := by
  unfold co
  rw [List.getD_eq_getElem?_getD, List.getD_eq_getElem?_getD, List.getElem?_map]
  cases q[i]? <;> simp
theorem Ed (f : Nat -> Int) (a : Int) : ∀ q : List Int, mu (q.map (a * ·)) f = fun i => a * mu q f i
  | [] => by funext i; simp [mu]
  | b :: q => by
    funext i
    simp only [List.map_cons, mu]
    rw [Ed f a q, Aef]
    grind
def ml : List Int -> List Int -> List Int
  | [], _ => []
  | a :: p, q => al (q.map (a * ·)) (0 :: ml p q)
theorem O7 : ∀ (p q : List Int), co (ml p q) = mu p (co q)
  | [], q => by funext i; simp [ml, mu, co]
  | a :: p, q => by
    funext i
    simp only [ml, mu]
    rw [Rh, Bw, <- O7 p q]
    cases i with
    | zero => simp [Bu, sh]
    | succ i => simp [Bx, sh]
theorem Jw (f : Nat -> Int) : ∀ (p q : List Int), mu (ml p q) f = mu p (mu q f)
  | [], q => rfl
  | a :: p, q => by
    funext i
    simp only [ml]
    rw [Rm, Ed]
    simp only [mu]
    rw [Jw f p q]
    simp
theorem Ad1 {p q r : List Int} (f : Nat -> Int) (h : ∀ i, co r i = mu p (co q) i) : mu r f = mu p (mu q f) := by
  rw [<- Jw]
  exact Bm f r _ fun i => by rw [h, O7]
theorem Hy : ∀ (p : List Int) (e : Int) (i : Nat), co (p ++ [e]) i = if i = p.length then e else co p i
  | [], e, 0 => by simp [co]
  | [], e, i + 1 => by simp [co]
  | a :: p, e, 0 => by simp [Bu]
  | a :: p, e, i + 1 => by
    rw [List.cons_append, Bx, Bx, Hy p e i, List.length_cons]
    by_cases h : i = p.length <;> simp [h]
theorem Qe (p : List Int) (j : Nat) (x : Int) (h : j < p.length) (i : Nat) : co (p.set j x) i = if i = j then x else co p i := by
  unfold co
  rw [List.getD_eq_getElem?_getD, List.getD_eq_getElem?_getD, List.getElem?_set]
  by_cases e : j = i
  . subst e
    simp [h]
  . rw [if_neg e, if_neg (Ne.symm e)]
theorem R5 {p q : List Int} (h : ∀ i, co p i = co q i) : trim p = trim q := Wa (Av q) fun i => by rw [Am, h]
theorem Mj (f : Nat -> Int) : ∀ (p : List Int) (e : Int) (i : Nat), mu (p ++ [e]) f i = mu p f i + (if p.length <= i then e * f (i - p.length) else 0)
  | [], e, i => by simp [mu, Qz]
  | a :: p, e, 0 => by simp [mu, sh]
  | a :: p, e, i + 1 => by
    simp only [List.cons_append, mu, sh, List.length_cons]
    rw [Mj f p e i]
    by_cases h : p.length <= i
    . rw [if_pos h, if_pos (by omega), show i + 1 - (p.length + 1) = i - p.length by omega]
      omega
    . rw [if_neg h, if_neg (by omega)]
      omega
theorem Aa5 : ∀ (p q : List Int) (i : Nat), p ≠ [] -> p.length + q.length <= i + 1 -> mu p (co q) i = 0
  | [], q, i, h, _ => absurd rfl h
  | [a], q, i, _, hl => by
    simp only [List.length_cons, List.length_nil] at hl
    simp only [mu]
    rw [Bk (by omega), Qz]
    simp
  | a :: b :: p, q, 0, _, hl => by
    simp only [List.length_cons] at hl
    omega
  | a :: b :: p, q, i + 1, _, hl => by
    simp only [List.length_cons] at hl
    show a * co q (i + 1) + mu (b :: p) (co q) i = 0
    rw [Bk (p := q) (by omega)]
    rw [Aa5 (b :: p) q i (by simp) (by simp only [List.length_cons]; omega)]
    simp
theorem Jb : ∀ (p q : List Int) (i : Nat), p ≠ [] -> q ≠ [] -> i + 2 = p.length + q.length -> mu p (co q) i = co p (p.length - 1) * co q (q.length - 1)
  | [], q, i, h, _, _ => absurd rfl h
  | [a], q, i, _, hq, hl => by
    simp only [List.length_cons, List.length_nil] at hl
    simp only [mu]
    rw [Qz]
    have e : i = q.length - 1 := by omega
    subst e
    simp [Bu]
  | a :: b :: p, q, 0, _, hq, hl => by
    have := List.length_pos_iff.mpr hq
    simp only [List.length_cons] at hl
    omega
  | a :: b :: p, q, i + 1, _, hq, hl => by
    simp only [List.length_cons] at hl
    show a * co q (i + 1) + mu (b :: p) (co q) i = _
    rw [Bk (p := q) (by omega)]
    rw [Jb (b :: p) q i (by simp) hq (by simp only [List.length_cons]; omega)]
    simp [Bx]
def tm (p q : List Int) : List Int := trim (ml p q)
def ta (p q : List Int) : List Int := trim (al p q)
theorem Bv (p q : List Int) (i : Nat) : co (tm p q) i = mu p (co q) i := by rw [tm, Am, O7]
theorem Ra (p q : List Int) (i : Nat) : co (ta p q) i = co p i + co q i := by rw [ta, Am, Rh]
theorem Dj (p q : List Int) : Tr (tm p q) := Av _
theorem W0 (p q : List Int) : Tr (ta p q) := Av _
theorem Bq (p q : List Int) : tm p q = tm q p := (Dj _ _).ext (Dj _ _) fun i => by rw [Bv, Bv, Fe]
theorem Ae6 (p q : List Int) : ta p q = ta q p := (W0 _ _).ext (W0 _ _) fun i => by rw [Ra, Ra, Int.add_comm]
theorem Br (p q r : List Int) : tm (tm p q) r = tm p (tm q r) := (Dj _ _).ext (Dj _ _) fun i => by
  rw [Bv, Bv, Ad1 (co r) (fun j => Bv p q j)]
  exact congrFun (congrArg (mu p) (funext fun j => (Bv q r j).symm)) i
theorem Aj8 (p q r : List Int) : tm p (ta q r) = ta (tm p q) (tm p r) := (Dj _ _).ext (W0 _ _) fun i => by
  rw [Bv, Ra, Bv, Bv, show co (ta q r) = fun j => co q j + co r j from funext fun j => Ra q r j, O4]
theorem Aey {p : List Int} (h : Tr p) : tm p [1] = p := (Dj _ _).ext h fun i => by
  rw [Bv, show co [1] = fun i => if i = 0 then 1 else 0 from by funext i; cases i <;> simp [co], Xn]
theorem Sw (p : List Int) : tm p [] = [] := (Dj _ _).ext (.inl rfl) fun i => by
  rw [Bv, show co [] = fun _ => 0 from by funext i; simp [co], Qi]
def pw (p : List Int) : Nat -> List Int
  | 0 => [1]
  | k + 1 => tm p (pw p k)
theorem Abi (p : List Int) : ∀ k, Tr (pw p k)
  | 0 => .inr ⟨by simp [pw], by simp [pw]⟩
  | k + 1 => Dj _ _
theorem Aek (p : List Int) : ∀ a b, tm (pw p a) (pw p b) = pw p (a + b)
  | 0, b => by rw [pw, Bq, Aey (Abi p b), Nat.zero_add]
  | a + 1, b => by rw [pw, Br, Aek p a b, show a + 1 + b = (a + b) + 1 by omega, pw]
theorem Ahd {p : List Int} (h : Tr p) : pw p 1 = p := by rw [pw, pw, Aey h]
def ng (p : List Int) (c : Int) : List Int := trim (p.map (· * c))
theorem O9 (p : List Int) (c : Int) (i : Nat) : co (ng p c) i = co p i * c := by
  rw [ng, Am]
  unfold co
  rw [List.getD_eq_getElem?_getD, List.getD_eq_getElem?_getD, List.getElem?_map]
  cases p[i]? <;> simp
theorem Ng {p q : List Int} (hp : Tr p) (hq : Tr q) (h1 : p ≠ []) (h2 : q ≠ []) : (tm p q).length + 1 = p.length + q.length := by
  have l1 := List.length_pos_iff.mpr h1
  have l2 := List.length_pos_iff.mpr h2
  have lead : co (tm p q) (p.length + q.length - 2) ≠ 0 := by
    rw [Bv, Jb p q _ h1 h2 (by omega)]
    exact Int.mul_ne_zero (hp.lead h1) (hq.lead h2)
  have a : p.length + q.length - 2 < (tm p q).length := by
    by_cases h : p.length + q.length - 2 < (tm p q).length
    . exact h
    . exact absurd (Bk (by omega)) lead
  have b : (tm p q).length <= p.length + q.length - 1 := by
    by_cases h : (tm p q).length <= p.length + q.length - 1
    . exact h
    . exfalso
      have hn : tm p q ≠ [] := fun z => by rw [z] at h; simp at h
      have := (Dj p q).lead hn
      rw [Bv, Aa5 p q _ h1 (by omega)] at this
      exact this rfl
  omega
theorem Ad9 (p q : List Int) : (ta p q).length <= max p.length q.length := by
  by_cases hn : ta p q = []
  . rw [hn]; simp
  by_cases h : (ta p q).length <= max p.length q.length
  . exact h
  . exfalso
    have := (W0 p q).lead hn
    rw [Ra, Bk (by omega), Bk (by omega)] at this
    exact this rfl
end Z
namespace Z
def gl : List Int -> Nat
  | [] => 0
  | a :: r => Int.gcd a (gl r)
theorem Ur : ∀ (L : List Int) (x : Int), x ∈ L -> ((gl L : Nat) : Int) ∣ x
  | a :: r, x, h => by
    rcases List.mem_cons.mp h with rfl | h
    . exact Int.gcd_dvd_left ..
    . exact Int.dvd_trans (Int.gcd_dvd_right ..) (Ur r x h)
theorem Aaj (e m : Int) : ∀ L : List Int, (∀ x ∈ L, e ∣ m * x) -> e ∣ m * (gl L : Nat)
  | [], _ => by simp [gl]
  | a :: r, h => by
    have h1 := h a (by simp)
    have h2 := Aaj e m r fun x hx => h x (by simp [hx])
    have h3 := Int.dvd_coe_gcd h1 h2
    rw [Int.gcd_mul_left, Int.natCast_mul] at h3
    rw [gl]
    rcases Int.natAbs_eq m with z | z
    . rw [z]; exact h3
    . rw [z, Int.neg_mul]; exact Int.dvd_neg.mpr h3
def Cop (s : Int) (a b : List Int) : Prop := ∀ e : Int, e ∣ s -> (∀ k, e ∣ co a k) -> (∀ k, e ∣ co b k) -> e ∣ 1
theorem Cop.gl {s : Int} {a b : List Int} (h : Cop s a b) : Z.gl (s :: (a ++ b)) = 1 := by
  have mem := Ur (s :: (a ++ b))
  have cd : ∀ (L : List Int), (∀ x ∈ L, x ∈ s :: (a ++ b)) -> ∀ k, ((Z.gl (s :: (a ++ b)) : Nat) : Int) ∣ co L k := fun L hL k => by
    by_cases hk : k < L.length
    . rw [Cp hk]; exact mem _ (hL _ (List.getElem_mem hk))
    . rw [Bk (by omega)]; exact Int.dvd_zero _
  have := h _ (mem s (by simp)) (cd a fun x hx => by simp [hx]) (cd b fun x hx => by simp [hx])
  have h1 := Int.le_of_dvd (by decide) this
  rcases Nat.eq_zero_or_pos (Z.gl (s :: (a ++ b))) with z | z
  . rw [z] at this
    have := Int.zero_dvd.mp this
    omega
  . omega
theorem Aga {s m e : Int} {a b : List Int} (h : Cop s a b) (h1 : e ∣ m * s) (h2 : ∀ k, e ∣ m * co a k) (h3 : ∀ k, e ∣ m * co b k) : e ∣ m := by
  have := Aaj e m (s :: (a ++ b)) fun x hx => by
    have inl : ∀ (L : List Int), (∀ k, e ∣ m * co L k) -> x ∈ L -> e ∣ m * x := fun L hL hm => by
      obtain ⟨i, hi, ei⟩ := List.getElem_of_mem hm
      have := hL i
      rw [Cp hi, ei] at this
      exact this
    rcases List.mem_cons.mp hx with rfl | hx
    . exact h1
    . rcases List.mem_append.mp hx with hx | hx
      . exact inl a h2 hx
      . exact inl b h3 hx
  rw [h.gl] at this
  simpa using this
theorem Abz {l : Int} (h : l ≠ 0) : l.sign * l = (l.natAbs : Int) := by
  rcases Int.lt_or_gt_of_ne h with h | h
  . rw [Int.sign_eq_neg_one_of_neg h]; omega
  . rw [Int.sign_eq_one_of_pos h]; omega
theorem Aj5 (r l : Int) (hl : l ≠ 0) : ∃ m f : Int, ((l.natAbs : Nat) : Int).fdiv ((Int.gcd r l : Nat) : Int) = m /\ (r * m).fdiv l = f /\ 1 <= m /\ r * m = f * l /\ (∀ e, e ∣ m -> e ∣ f -> e ∣ 1) /\ m.natAbs <= l.natAbs /\ f.natAbs <= r.natAbs := by
  have g0 : 0 < Int.gcd r l := Int.gcd_pos_of_ne_zero_right r hl
  obtain ⟨r', er⟩ : ((Int.gcd r l : Nat) : Int) ∣ r := Int.gcd_dvd_left ..
  obtain ⟨l', el⟩ : ((Int.gcd r l : Nat) : Int) ∣ l := Int.gcd_dvd_right ..
  have cop : Int.gcd r' l' = 1 := by
    have h : Int.gcd r l = Int.gcd r l * Int.gcd r' l' := by
      have := Int.gcd_mul_left ((Int.gcd r l : Nat) : Int) r' l'
      rw [<- er, <- el, Int.natAbs_natCast] at this
      exact this
    have : Int.gcd r l * 1 = Int.gcd r l * Int.gcd r' l' := by rw [Nat.mul_one]; exact h
    exact (Nat.eq_of_mul_eq_mul_left g0 this).symm
  generalize Int.gcd r l = g at *
  have hl' : l' ≠ 0 := fun z => hl (by rw [el, z, Int.mul_zero])
  have em : ((l.natAbs : Nat) : Int).fdiv (g : Int) = (l'.natAbs : Nat) := by
    rw [el, Int.natAbs_mul, Int.natAbs_natCast, Int.natCast_mul, Int.mul_fdiv_cancel_left _ (by omega)]
  refine ⟨(l'.natAbs : Nat), r' * l'.sign, em, ?_, by omega, ?_, ?_, ?_, ?_⟩
  . have : r * (l'.natAbs : Nat) = (r' * l'.sign) * l := by
      rw [el]
      have h := Int.sign_mul_natAbs l'
      have h2 : l'.sign * l' = (l'.natAbs : Int) := Abz hl'
      rw [er, <- h2]
      grind
    rw [this, Int.mul_fdiv_cancel _ hl]
  . have h2 : l'.sign * l' = (l'.natAbs : Int) := Abz hl'
    rw [er, el, <- h2]
    grind
  . intro e h1 h2
    have a1 : e ∣ l' := by
      rcases Int.natAbs_eq l' with z | z
      . rw [z]; exact h1
      . rw [z]; exact Int.dvd_neg.mpr h1
    have a2 : e ∣ r' := by
      have : e ∣ r' * l'.sign * l'.sign := Int.dvd_trans h2 (Int.dvd_mul_right _ _)
      rw [Int.mul_assoc, show l'.sign * l'.sign = 1 by
        rcases Int.lt_or_gt_of_ne hl' with h | h
        . rw [Int.sign_eq_neg_one_of_neg h]; rfl
        . rw [Int.sign_eq_one_of_pos h]; rfl, Int.mul_one] at this
      exact this
    have := Int.dvd_coe_gcd a2 a1
    rw [cop] at this
    exact this
  . rw [Int.natAbs_natCast, el, Int.natAbs_mul, Int.natAbs_natCast]
    exact Nat.le_mul_of_pos_left _ g0
  . rw [er, Int.natAbs_mul, Int.natAbs_mul, Int.natAbs_natCast]
    have : l'.sign.natAbs = 1 := by
      rcases Int.lt_or_gt_of_ne hl' with h | h
      . rw [Int.sign_eq_neg_one_of_neg h]; rfl
      . rw [Int.sign_eq_one_of_pos h]; rfl
    rw [this, Nat.mul_one]
    exact Nat.le_mul_of_pos_left _ g0
structure DV (p q : List Int) (s : Int) (qs rs : List Int) (j : Nat) : Prop where
  pos : 1 <= s
  eq : ∀ k, s * co p k = mu qs (co q) k + co rs k
  top : ∀ k, j + q.length <= k + 1 -> co rs k = 0
  low : ∀ k, k < j -> co qs k = 0
  cop : Cop s qs rs
theorem Sd (f : Nat -> Int) (n : Nat) : ∀ i, mu (List.replicate n 0) f i = 0 := fun i => by
  rw [Qa f _ fun i => by unfold co; rw [List.getD_eq_getElem?_getD, List.getElem?_replicate]; split <;> rfl]
theorem DV.start (p q : List Int) (hq : q ≠ []) : DV p q 1 (List.replicate (p.length + 1 - q.length) 0) p (p.length + 1 - q.length) := by
  have hl : 0 < q.length := List.length_pos_iff.mpr hq
  refine ⟨Int.le_refl _, fun k => by rw [Sd, Int.one_mul, Int.zero_add], fun k h => Bk (by omega), fun k h => ?_, fun e h _ _ => h⟩
  unfold co
  rw [List.getD_eq_getElem?_getD, List.getElem?_replicate]
  split <;> rfl
theorem Tf (m : Int) (L : List Int) (k : Nat) : co (L.map (· * m)) k = co L k * m := by
  unfold co
  rw [List.getD_eq_getElem?_getD, List.getD_eq_getElem?_getD, List.getElem?_map]
  cases L[k]? <;> simp
theorem DV.step {p q : List Int} {s : Int} {qs rs : List Int} {j : Nat} (h : DV p q s qs rs (j + 1)) (hq : q ≠ []) {m f : Int} (m1 : 1 <= m) (hj : j < qs.length) (ef : co rs (j + (q.length - 1)) * m = f * co q (q.length - 1)) (cp : ∀ e, e ∣ m -> e ∣ f -> e ∣ 1)
    {rs' : List Int} (hr : ∀ k, co rs' k = co rs k * m - (if j <= k then f * co q (k - j) else 0)) : DV p q (s * m) ((qs.map (· * m)).set j f) rs' j := by
  have hl : 0 < q.length := List.length_pos_iff.mpr hq
  have cq : ∀ k, co ((qs.map (· * m)).set j f) k = if k = j then f else co qs k * m := fun k => by
    rw [Qe _ _ _ (by rw [List.length_map]; exact hj), Tf]
  have sp : ∀ k, co ((qs.map (· * m)).set j f) k = co (al (qs.map (· * m)) (List.replicate j 0 ++ [f])) k := fun k => by
    rw [cq, Rh, Tf, Hy, List.length_replicate]
    by_cases hk : k = j
    . rw [if_pos hk, if_pos hk, hk, h.low j (by omega)]; simp
    . rw [if_neg hk, if_neg hk]
      have : co (List.replicate j (0 : Int)) k = 0 := by
        unfold co
        rw [List.getD_eq_getElem?_getD, List.getElem?_replicate]
        split <;> rfl
      rw [this, Int.add_zero]
  have ms : ∀ k, mu (qs.map (· * m)) (co q) k = mu qs (co q) k * m := fun k => by
    have e : qs.map (· * m) = qs.map (m * ·) := List.map_congr_left fun x _ => Int.mul_comm _ _
    rw [e, Ed, Int.mul_comm]
  refine ⟨?_, fun k => ?_, fun k hk => ?_, fun k hk => ?_, fun e h1 h2 h3 => ?_⟩
  . have := Int.mul_le_mul h.pos m1 (by decide) (by have := h.pos; omega)
    omega
  . rw [Bm (co q) _ _ sp, Rm]
    dsimp only
    rw [Mj, Sd, ms, List.length_replicate, hr]
    have := h.eq k
    have e : s * m * co p k = (s * co p k) * m := by grind
    rw [e, this]
    grind
  . rw [hr, if_pos (by omega)]
    by_cases hk2 : k = j + (q.length - 1)
    . subst hk2
      rw [ef, show j + (q.length - 1) - j = q.length - 1 by omega]
      omega
    . rw [h.top k (by omega), Bk (show q.length <= k - j by omega)]
      simp
  . rw [cq, if_neg (by omega), h.low k (by omega), Int.zero_mul]
  . have hf : e ∣ f := by have := h2 j; rw [cq, if_pos rfl] at this; exact this
    refine cp e (Aga h.cop (by rw [Int.mul_comm]; exact h1) (fun k => ?_) fun k => ?_) hf
    . by_cases hk : k = j
      . rw [hk, h.low j (by omega), Int.mul_zero]; exact Int.dvd_zero _
      . have := h2 k
        rw [cq, if_neg hk] at this
        rw [Int.mul_comm]
        exact this
    . have a := h3 k
      rw [hr] at a
      have b : e ∣ (if j <= k then f * co q (k - j) else 0) := by
        split
        . exact Int.dvd_trans hf (Int.dvd_mul_right _ _)
        . exact Int.dvd_zero _
      have := Int.dvd_add a b
      rw [Int.sub_add_cancel, Int.mul_comm] at this
      exact this
end Z
namespace Z
theorem Z4 (e : Int) : ∀ (p : List Int) (f : Nat -> Int) (i : Nat), (∀ j, j <= i -> e ∣ f j) -> e ∣ mu p f i
  | [], _, _, _ => Int.dvd_zero _
  | a :: p, f, 0, h => by
    show e ∣ a * f 0 + 0
    rw [Int.add_zero]
    exact Int.dvd_trans (h 0 (Nat.le_refl _)) (Int.dvd_mul_left _ _)
  | a :: p, f, i + 1, h => by
    show e ∣ a * f (i + 1) + mu p f i
    exact Int.dvd_add (Int.dvd_trans (h _ (Nat.le_refl _)) (Int.dvd_mul_left _ _)) (Z4 e p f i fun j hj => h j (by omega))
theorem Rk {e : Int} (he : ∀ a b : Int, e ∣ a * b -> e ∣ a \/ e ∣ b) : ∀ (p q : List Int), (∀ k, e ∣ mu p (co q) k) -> (∀ k, e ∣ co p k) \/ (∀ k, e ∣ co q k)
  | [], _, _ => .inl fun k => by rw [Ay]; exact Int.dvd_zero _
  | a :: p, q, h => by
    by_cases ha : e ∣ a
    . have h2 : ∀ k, e ∣ mu p (co q) k := fun k => by
        have := h (k + 1)
        have z : e ∣ a * co q (k + 1) := Int.dvd_trans ha (Int.dvd_mul_right _ _)
        exact (Int.dvd_add_right z).mp this
      rcases Rk he p q h2 with h3 | h3
      . refine .inl fun k => ?_
        cases k with
        | zero => rw [Bu]; exact ha
        | succ k => rw [Bx]; exact h3 k
      . exact .inr h3
    . refine .inr fun k => ?_
      induction k using Nat.strongRecOn with
      | _ k ih =>
        have z := h k
        have s : e ∣ sh (mu p (co q)) k := by
          cases k with
          | zero => exact Int.dvd_zero _
          | succ k => exact Z4 e p _ k fun j hj => ih j (by omega)
        have : e ∣ a * co q k := (Int.dvd_add_left s).mp z
        exact (he _ _ this).resolve_left ha
theorem Xu : ∀ n : Nat, n ≠ 1 -> ∃ r : Nat, 2 <= r /\ r ∣ n /\ ∀ a b : Int, (r : Int) ∣ a * b -> (r : Int) ∣ a \/ (r : Int) ∣ b := fun n => by
  have main : ∀ m : Nat, 2 <= m -> ∃ r : Nat, 2 <= r /\ r ∣ m /\ ∀ a b : Int, (r : Int) ∣ a * b -> (r : Int) ∣ a \/ (r : Int) ∣ b := fun m => by
    induction m using Nat.strongRecOn with
    | _ m ih =>
      intro hm
      by_cases h : ∃ d, 2 <= d /\ d < m /\ d ∣ m
      . obtain ⟨d, h1, h2, h3⟩ := h
        obtain ⟨r, a1, a2, a3⟩ := ih d h2 h1
        exact ⟨r, a1, Nat.dvd_trans a2 h3, a3⟩
      . refine ⟨m, hm, Nat.dvd_refl _, fun a b hab => ?_⟩
        by_cases ha : (m : Int) ∣ a
        . exact .inl ha
        . right
          have g1 : Nat.gcd m a.natAbs = 1 := by
            have gd : Nat.gcd m a.natAbs ∣ m := Nat.gcd_dvd_left ..
            have gl := Nat.le_of_dvd (by omega) gd
            have gp := Nat.gcd_pos_of_pos_left a.natAbs (show 0 < m by omega)
            by_cases e1 : Nat.gcd m a.natAbs = 1
            . exact e1
            . exfalso
              by_cases e2 : Nat.gcd m a.natAbs = m
              . refine ha (Int.ofNat_dvd_left.mpr ?_)
                have := Nat.gcd_dvd_right m a.natAbs
                rw [e2] at this
                exact this
              . exact h ⟨_, by omega, by omega, gd⟩
          have hd : m ∣ a.natAbs * b.natAbs := by
            have := Int.ofNat_dvd_left.mp hab
            rwa [Int.natAbs_mul] at this
          exact Int.ofNat_dvd_left.mpr (Nat.Coprime.dvd_of_dvd_mul_left g1 hd)
  intro hn
  by_cases h0 : n = 0
  . subst h0
    obtain ⟨r, a1, _, a3⟩ := main 2 (by decide)
    exact ⟨r, a1, Nat.dvd_zero _, a3⟩
  . exact main n (by omega)
def Prim (p : List Int) : Prop := ∀ e : Int, (∀ k, e ∣ co p k) -> e ∣ 1
theorem Aka {p q r : List Int} (hp : Prim p) (hq : Prim q) (hr : ∀ k, co r k = mu p (co q) k) : Prim r := fun e he => by
  by_cases h1 : e.natAbs = 1
  . exact Int.natAbs_dvd.mp (by rw [h1]; exact Int.dvd_refl _)
  . exfalso
    obtain ⟨t, t2, td, tp⟩ := Xu e.natAbs h1
    have te : (t : Int) ∣ e := Int.ofNat_dvd_left.mpr td
    have no : ∀ s : List Int, Prim s -> ¬ ∀ k, (t : Int) ∣ co s k := fun s hs h => by
      have := Int.le_of_dvd (by decide) (hs _ h)
      omega
    rcases Rk tp p q fun k => by rw [<- hr]; exact Int.dvd_trans te (he k) with h | h
    . exact no p hp h
    . exact no q hq h
theorem Nj {e m : Int} {p : List Int} (h : ∀ k, e ∣ m * co p k) : e ∣ m * (gl p : Nat) := Aaj e m p fun x hx => by
  obtain ⟨i, hi, ei⟩ := List.getElem_of_mem hx
  have := h i
  rw [Cp hi, ei] at this
  exact this
theorem Acn (p : List Int) (k : Nat) : ((gl p : Nat) : Int) ∣ co p k := by
  by_cases hk : k < p.length
  . rw [Cp hk]; exact Ur p _ (List.getElem_mem hk)
  . rw [Bk (by omega)]; exact Int.dvd_zero _
theorem Prim.gl {p : List Int} (h : Prim p) : Z.gl p = 1 := by
  have := h _ (Acn p)
  have h1 := Int.le_of_dvd (by decide) this
  rcases Nat.eq_zero_or_pos (Z.gl p) with z | z
  . rw [z] at this
    have := Int.zero_dvd.mp this
    omega
  . omega
theorem Abb {p : List Int} {k : Nat} (h : co p k ≠ 0) : 0 < gl p := by
  rcases Nat.eq_zero_or_pos (gl p) with z | z
  . have := Acn p k
    rw [z] at this
    exact absurd (Int.zero_dvd.mp this) h
  . exact z
theorem X3 {u v : List Int} {c d : Int} (hc : c ≠ 0) (hd : d ≠ 0) (hu : Prim u) (hv : Prim v) (h : ∀ k, c * co u k = d * co v k) {a b : Nat} (ua : 0 < co u a) (ub : ∀ k, a < k -> co u k = 0) (va : 0 < co v b) (vb : ∀ k, b < k -> co v k = 0) : c = d /\ ∀ k, co u k = co v k := by
  have cd : c ∣ d := by
    have := Nj (e := c) (m := d) (p := v) fun k => by rw [<- h]; exact Int.dvd_mul_right _ _
    rw [hv.gl] at this
    simpa using this
  have dc : d ∣ c := by
    have := Nj (e := d) (m := c) (p := u) fun k => by rw [h]; exact Int.dvd_mul_right _ _
    rw [hu.gl] at this
    simpa using this
  have ab : a = b := by
    rcases Nat.lt_trichotomy a b with l | l | l
    . exfalso
      have := h b
      rw [ub b l, Int.mul_zero] at this
      rcases Int.mul_eq_zero.mp this.symm with z | z
      . exact hd z
      . omega
    . exact l
    . exfalso
      have := h a
      rw [vb a l, Int.mul_zero] at this
      rcases Int.mul_eq_zero.mp this with z | z
      . exact hc z
      . omega
  subst ab
  have ha := h a
  have e : c = d := by
    have n : c.natAbs = d.natAbs := Nat.dvd_antisymm (Int.natAbs_dvd_natAbs.mpr cd) (Int.natAbs_dvd_natAbs.mpr dc)
    rcases Int.natAbs_eq_natAbs_iff.mp n with z | z
    . exact z
    . exfalso
      rw [z, Int.neg_mul] at ha
      have h0 : d * (co u a + co v a) = 0 := by rw [Int.mul_add]; omega
      rcases Int.mul_eq_zero.mp h0 with z | z
      . exact hd z
      . omega
  refine ⟨e, fun k => ?_⟩
  have hk := h k
  rw [e] at hk
  exact Int.eq_of_mul_eq_mul_left hd hk
def un (p : List Int) : Int := if co p (p.length - 1) < 0 then -(gl p : Nat) else (gl p : Nat)
def pln (p : List Int) : List Int := p.map fun x => x.fdiv (un p)
theorem Nx (p : List Int) : (pln p).length = p.length := by rw [pln, List.length_map]
theorem Qg {f : Int -> Int} (h : f 0 = 0) (p : List Int) (k : Nat) : co (p.map f) k = f (co p k) := by
  unfold co
  rw [List.getD_eq_getElem?_getD, List.getD_eq_getElem?_getD, List.getElem?_map]
  cases p[k]? <;> simp [h]
theorem Aew (p : List Int) (k : Nat) : un p ∣ co p k := by
  unfold un
  split
  . exact Int.neg_dvd.mpr (Acn p k)
  . exact Acn p k
theorem T5 {p : List Int} (hp : Tr p) (h : p ≠ []) : un p ≠ 0 := by
  have := Abb (hp.lead h)
  unfold un
  split <;> omega
theorem Ma {p : List Int} (hp : Tr p) (h : p ≠ []) (k : Nat) : un p * co (pln p) k = co p k := by
  rw [pln, Qg (f := fun x => x.fdiv (un p)) (Int.zero_fdiv _)]
  obtain ⟨t, ht⟩ := Aew p k
  rw [ht, Int.mul_fdiv_cancel_left _ (T5 hp h)]
theorem Agd {p : List Int} (k : Nat) (hk : p.length - 1 < k) : co (pln p) k = 0 := Bk (by rw [Nx]; omega)
theorem Pk {p : List Int} (hp : Tr p) (h : p ≠ []) : 0 < co (pln p) (p.length - 1) := by
  have e := Ma hp h (p.length - 1)
  have l := hp.lead h
  have g := Abb l
  have z : co (pln p) (p.length - 1) ≠ 0 := fun z => l (by rw [<- e, z, Int.mul_zero])
  by_cases hl : co p (p.length - 1) < 0
  . have u : un p = -(gl p : Nat) := if_pos hl
    rw [u] at e
    rcases Int.lt_or_gt_of_ne z with y | y
    . have := Int.mul_pos_of_neg_of_neg (show -((gl p : Nat) : Int) < 0 by omega) y
      omega
    . exact y
  . have u : un p = (gl p : Nat) := if_neg hl
    rw [u] at e
    rcases Int.lt_or_gt_of_ne z with y | y
    . have := Int.mul_neg_of_pos_of_neg (show 0 < ((gl p : Nat) : Int) by omega) y
      omega
    . exact y
theorem Mf {p : List Int} (hp : Tr p) : Tr (pln p) := by
  by_cases h : p = []
  . subst h; exact .inl rfl
  . refine .of (.inr ?_)
    rw [Nx]
    have := Pk hp h
    omega
theorem Jg {p : List Int} (hp : Tr p) (h : p ≠ []) : Prim (pln p) := fun e he => by
  have g := Abb (hp.lead h)
  have d : (gl p : Nat) * e ∣ 1 * (gl p : Nat) := Nj fun k => by
    rw [Int.one_mul, <- Ma hp h k]
    have : ((gl p : Nat) : Int) * e ∣ (gl p : Nat) * co (pln p) k := Int.mul_dvd_mul (Int.dvd_refl _) (he k)
    unfold un
    split
    . rw [Int.neg_mul]; exact Int.dvd_neg.mpr this
    . exact this
  rw [Int.mul_comm 1] at d
  exact Int.dvd_of_mul_dvd_mul_left (by omega) d
theorem Aho {r v : List Int} {c : Int} (hr : Tr r) (hv : Tr v) (pv : Prim v) (hc : c ≠ 0) (h : ∀ k, c * co v k = co r k) (n : v ≠ []) (l : 0 < co v (v.length - 1)) : pln r = v := by
  have rn : r ≠ [] := fun z => by
    have := h (v.length - 1)
    rw [z, Ay] at this
    rcases Int.mul_eq_zero.mp this with z | z <;> omega
  refine (Mf hr).ext hv (X3 (T5 hr rn) hc (Jg hr rn) pv (fun k => by rw [Ma hr rn, h]) (Pk hr rn) (fun k hk => Agd k hk) l fun k hk => Bk (by omega)).2
theorem Acb {p : List Int} (hp : Tr p) {c : Int} (hc : c ≠ 0) {r : List Int} (hr : Tr r) (h : ∀ k, co r k = c * co p k) : pln r = pln p := by
  by_cases np : p = []
  . subst np
    have : r = [] := hr.ext (.inl rfl) fun k => by rw [h, Ay, Int.mul_zero]
    rw [this]
  . have np' : pln p ≠ [] := fun z => by have := Nx p; rw [z] at this; exact absurd this.symm (by simp; exact np)
    refine Aho (c := c * un p) hr (Mf hp) (Jg hp np) (fun z => by rcases Int.mul_eq_zero.mp z with z | z; exact hc z; exact T5 hp np z) (fun k => ?_) np' (by rw [Nx]; exact Pk hp np)
    rw [h, <- Ma hp np, Int.mul_assoc]
def Exact (p q : List Int) : Prop := ∃ v : List Int, ∀ k, co p k = mu v (co q) k
theorem Ag3 : ∀ (w q : List Int) (j : Nat), q ≠ [] -> co q (q.length - 1) ≠ 0 -> (∀ k, j + q.length <= k -> mu w (co q) k = 0) -> co q (q.length - 1) ∣ mu w (co q) (j + (q.length - 1)) := by
  intro w q j hq hl h
  have lq : 0 < q.length := List.length_pos_iff.mpr hq
  have tw : Tr (trim w) := Av w
  have e : ∀ k, mu (trim w) (co q) k = mu w (co q) k := fun k => congrFun (Bm (co q) _ _ (Am w)) k
  rw [<- e]
  by_cases n : trim w = []
  . rw [n]; exact Int.dvd_zero _
  . have l := tw.lead n
    have lw : 0 < (trim w).length := List.length_pos_iff.mpr n
    have ld := Jb (trim w) q ((trim w).length + q.length - 2) n hq (by omega)
    have nz : co (trim w) ((trim w).length - 1) * co q (q.length - 1) ≠ 0 := fun z => by rcases Int.mul_eq_zero.mp z with z | z <;> contradiction
    by_cases h1 : j + 1 < (trim w).length
    . exfalso
      have := h ((trim w).length + q.length - 2) (by omega)
      rw [<- e, ld] at this
      exact nz this
    . by_cases h2 : (trim w).length = j + 1
      . rw [show j + (q.length - 1) = (trim w).length + q.length - 2 by omega, ld]
        exact Int.dvd_mul_left _ _
      . rw [Aa5 _ _ _ n (by omega)]
        exact Int.dvd_zero _
theorem Ad7 (q : List Int) (v u : List Int) : ∃ w : List Int, ∀ k, mu w (co q) k = mu v (co q) k - mu u (co q) k := by
  refine ⟨al v (u.map (-1 * ·)), fun k => ?_⟩
  rw [Rm]
  dsimp only
  rw [Ed]
  dsimp only
  omega
theorem DV.exact_top {p q qs rs : List Int} {j : Nat} (h : DV p q 1 qs rs (j + 1)) (hq : q ≠ []) (hl : co q (q.length - 1) ≠ 0) (ex : Exact p q) : co q (q.length - 1) ∣ co rs (j + (q.length - 1)) := by
  obtain ⟨v, hv⟩ := ex
  obtain ⟨w, hw⟩ := Ad7 q v qs
  have e : ∀ k, co rs k = mu w (co q) k := fun k => by
    have := h.eq k
    rw [hw, <- hv]
    omega
  rw [e]
  refine Ag3 w q j hq hl fun k hk => ?_
  rw [<- e]
  exact h.top k (by omega)
theorem Acr {r l : Int} (hl : l ≠ 0) (h : l ∣ r) : ((l.natAbs : Nat) : Int).fdiv ((Int.gcd r l : Nat) : Int) = 1 := by
  have : Int.gcd r l = l.natAbs := Nat.gcd_eq_right (Int.natAbs_dvd_natAbs.mpr h)
  rw [this]
  exact Int.fdiv_self (by omega)
theorem Acx {p q u r : List Int} {s : Int} (hq : q ≠ []) (hl : co q (q.length - 1) ≠ 0) (h : ∀ k, s * co p k = mu u (co q) k + co r k) (s1 : 1 <= s) (hr : Tr r) (lr : r.length < q.length) (cop : Cop s u r) (ex : Exact p q) : s = 1 /\ r = [] := by
  obtain ⟨v, hv⟩ := ex
  obtain ⟨w, hw⟩ := Ad7 q (v.map (s * ·)) u
  have e : ∀ k, co r k = mu w (co q) k := fun k => by
    have := h k
    rw [hw, Ed]
    dsimp only
    rw [<- hv]
    omega
  have w0 : ∀ k, co w k = 0 := by
    have e2 : ∀ k, mu (trim w) (co q) k = mu w (co q) k := fun k => congrFun (Bm (co q) _ _ (Am w)) k
    by_cases n : trim w = []
    . intro k; rw [<- Am, n, Ay]
    . exfalso
      have lw : 0 < (trim w).length := List.length_pos_iff.mpr n
      have ld := Jb (trim w) q ((trim w).length + q.length - 2) n hq (by omega)
      rw [e2, <- e, Bk (by omega)] at ld
      rcases Int.mul_eq_zero.mp ld.symm with z | z
      . exact (Av w).lead n z
      . exact hl z
  have r0 : r = [] := hr.ext (.inl rfl) fun k => by rw [e, Qa (co q) w w0, Ay]
  refine ⟨?_, r0⟩
  have us : ∀ k, co u k = s * co v k := by
    have a := fun k => h k
    have d : ∀ k, mu (al u (v.map (-s * ·))) (co q) k = 0 := fun k => by
      rw [Rm]
      dsimp only
      rw [Ed]
      dsimp only
      rw [<- hv]
      have := h k
      rw [r0, Ay] at this
      rw [Int.neg_mul]
      omega
    have x0 : trim (al u (v.map (-s * ·))) = [] := by
      by_cases n : trim (al u (v.map (-s * ·))) = []
      . exact n
      . exfalso
        have e2 := congrFun (Bm (co q) _ _ (Am (al u (v.map (-s * ·))))) ((trim (al u (v.map (-s * ·)))).length + q.length - 2)
        have lw : 0 < (trim (al u (v.map (-s * ·)))).length := List.length_pos_iff.mpr n
        have lq : 0 < q.length := List.length_pos_iff.mpr hq
        rw [d, Jb _ q _ n hq (by omega)] at e2
        rcases Int.mul_eq_zero.mp e2 with z | z
        . exact (Av _).lead n z
        . exact hl z
    intro k
    have := Am (al u (v.map (-s * ·))) k
    rw [x0, Ay, Rh, Bw, Int.neg_mul] at this
    omega
  have := cop s (Int.dvd_refl _) (fun k => by rw [us]; exact Int.dvd_mul_right _ _) fun k => by rw [r0, Ay]; exact Int.dvd_zero _
  have := Int.le_of_dvd (by decide) this
  omega
end Z
namespace Z
section
variable {C : Type}
def La (r : C -> Int) (f : List C -> Int) : List C -> Int
  | [] => 0
  | c :: cs => r c * f cs - La r (fun x => f (c :: x)) cs
def Dt : List (C -> Int) -> List C -> Int
  | [], [] => 1
  | [], _ :: _ => 0
  | r :: rows, cs => La r (Dt rows) cs
theorem Rb (r : C -> Int) : ∀ cs, La r (fun _ => 0) cs = 0
  | [] => rfl
  | c :: cs => by rw [La, Rb r cs]; simp
theorem Ab3 (r : C -> Int) : ∀ (cs : List C) (f g : List C -> Int), La r (fun x => f x + g x) cs = La r f cs + La r g cs
  | [], f, g => rfl
  | c :: cs, f, g => by
    rw [La, La, La, Ab3 r cs]
    grind
theorem R7 (r : C -> Int) (k : Int) : ∀ (cs : List C) (f : List C -> Int), La r (fun x => k * f x) cs = k * La r f cs
  | [], f => by simp [La]
  | c :: cs, f => by
    rw [La, La, R7 r k cs]
    grind
theorem Aex (r : C -> Int) (cs : List C) (f g : List C -> Int) : La r (fun x => f x - g x) cs = La r f cs - La r g cs := by
  have h1 := Ab3 r cs (fun x => f x - g x) g
  have h2 : (fun x => f x - g x + g x) = f := by funext x; omega
  rw [h2] at h1
  omega
theorem Aa1 (r s : C -> Int) : ∀ (cs : List C) (f : List C -> Int), La (fun c => r c + s c) f cs = La r f cs + La s f cs
  | [], f => rfl
  | c :: cs, f => by
    rw [La, La, La, Aa1 r s cs]
    grind
theorem Aap (r : C -> Int) (k : Int) : ∀ (cs : List C) (f : List C -> Int), La (fun c => k * r c) f cs = k * La r f cs
  | [], f => by simp [La]
  | c :: cs, f => by
    rw [La, La, Aap r k cs]
    grind
theorem Xg : ∀ (cs : List C) (f : List C -> Int), La (fun _ => 0) f cs = 0
  | [], f => rfl
  | c :: cs, f => by rw [La, Xg cs]; simp
theorem Abm (r s : C -> Int) : ∀ (cs : List C) (f : List C -> Int), La r (La s f) cs = -La s (La r f) cs
  | [], f => rfl
  | c :: cs, f => by
    rw [La, La]
    have e1 : (fun x => La s f (c :: x)) = fun x => s c * f x - La s (fun y => f (c :: y)) x := rfl
    have e2 : (fun x => La r f (c :: x)) = fun x => r c * f x - La r (fun y => f (c :: y)) x := rfl
    rw [e1, e2, Aex, Aex, R7, R7, Abm r s cs]
    grind
theorem V7 (r s : C -> Int) (rows : List (C -> Int)) (cs : List C) : Dt (r :: s :: rows) cs = -Dt (s :: r :: rows) cs := Abm r s cs (Dt rows)
theorem Aea {b : C -> Int} : ∀ {post : List (C -> Int)}, b ∈ post -> ∀ cs, Dt (b :: post) cs = 0
  | x :: xs, h, cs => by
    rcases List.mem_cons.mp h with rfl | h
    . have := V7 b b xs cs
      omega
    . rw [V7]
      show -La x (Dt (b :: xs)) cs = 0
      have e : Dt (b :: xs) = fun _ => 0 := by funext y; exact Aea h y
      rw [e, Rb]
      rfl
theorem Wy {rows : List (C -> Int)} (h : ∀ cs, Dt rows cs = 0) : ∀ (pre : List (C -> Int)) (cs : List C), Dt (pre ++ rows) cs = 0
  | [], cs => h cs
  | p :: pre, cs => by
    show La p (Dt (pre ++ rows)) cs = 0
    have e : Dt (pre ++ rows) = fun _ => 0 := by funext y; exact Wy h pre y
    rw [e, Rb]
theorem Zn (r s : C -> Int) (post : List (C -> Int)) : ∀ (pre : List (C -> Int)) (cs : List C), Dt (pre ++ (fun c => r c + s c) :: post) cs = Dt (pre ++ r :: post) cs + Dt (pre ++ s :: post) cs
  | [], cs => Aa1 r s cs _
  | p :: pre, cs => by
    show La p (Dt (pre ++ (fun c => r c + s c) :: post)) cs = La p (Dt (pre ++ r :: post)) cs + La p (Dt (pre ++ s :: post)) cs
    rw [<- Ab3]
    congr 1
    funext y
    exact Zn r s post pre y
theorem Xr (r : C -> Int) (k : Int) (post : List (C -> Int)) : ∀ (pre : List (C -> Int)) (cs : List C), Dt (pre ++ (fun c => k * r c) :: post) cs = k * Dt (pre ++ r :: post) cs
  | [], cs => Aap r k cs _
  | p :: pre, cs => by
    show La p (Dt (pre ++ (fun c => k * r c) :: post)) cs = k * La p (Dt (pre ++ r :: post)) cs
    rw [<- R7]
    congr 1
    funext y
    exact Xr r k post pre y
inductive Sn (B : List (C -> Int)) : (C -> Int) -> Prop where
  | zero : Sn B (fun _ => 0)
  | add (k : Int) {b v : C -> Int} (hb : b ∈ B) (hv : Sn B v) : Sn B (fun c => k * b c + v c)
theorem Sn.mono {B B' : List (C -> Int)} (h : ∀ b ∈ B, b ∈ B') {v : C -> Int} (s : Sn B v) : Sn B' v := by
  induction s with
  | zero => exact .zero
  | add k hb _ ih => exact .add k (h _ hb) ih
theorem Ajf {B : List (C -> Int)} {v : C -> Int} (s : Sn B v) (post : List (C -> Int)) (hB : ∀ b ∈ B, b ∈ post) (pre : List (C -> Int)) (cs : List C) : Dt (pre ++ v :: post) cs = 0 := by
  induction s with
  | zero => exact Wy (rows := (fun _ => 0) :: post) (fun cs => Xg cs _) pre cs
  | @add k b v hb _ ih =>
    rw [Zn (fun c => k * b c) v post pre cs, ih, Xr, Wy (Aea (hB b hb)) pre cs]
    simp
inductive Rel (k : Int) (B : List (C -> Int)) : List (C -> Int) -> List (C -> Int) -> Prop where
  | nil : Rel k B [] []
  | cons {a a' v : C -> Int} {A A' : List (C -> Int)} (hv : Sn B v) (h : ∀ c, k * a c = a' c + v c) (t : Rel k B A A') : Rel k B (a :: A) (a' :: A')
theorem Aeh {k : Int} {B : List (C -> Int)} {A A' : List (C -> Int)} (h : Rel k B A A') (cs : List C) : ∀ pre : List (C -> Int), k ^ A.length * Dt (pre ++ (A ++ B)) cs = Dt (pre ++ (A' ++ B)) cs := by
  induction h with
  | nil => intro pre; simp
  | @cons a a' v A A' hv h t ih =>
    intro pre
    have e : (fun c => k * a c) = fun c => a' c + v c := funext h
    have e1 : k * Dt (pre ++ a :: (A ++ B)) cs = Dt (pre ++ a' :: (A ++ B)) cs := by
      rw [<- Xr, e, Zn, Ajf hv (A ++ B) (fun b hb => List.mem_append_right _ hb), Int.add_zero]
    have e2 := ih (pre ++ [a'])
    rw [List.append_assoc, List.append_assoc] at e2
    show k ^ (A.length + 1) * Dt (pre ++ a :: (A ++ B)) cs = Dt (pre ++ a' :: (A' ++ B)) cs
    rw [Int.pow_succ, Int.mul_assoc, e1]
    exact e2
theorem Ac3 {k : Int} {R : List (C -> Int)} (B : List (C -> Int)) (cs : List C) : ∀ pre : List (C -> Int), Dt (pre ++ (R.map (fun r c => k * r c) ++ B)) cs = k ^ R.length * Dt (pre ++ (R ++ B)) cs := by
  induction R with
  | nil => intro pre; simp
  | cons r R ih =>
    intro pre
    show Dt (pre ++ (fun c => k * r c) :: (R.map (fun r c => k * r c) ++ B)) cs = k ^ (R.length + 1) * Dt (pre ++ r :: (R ++ B)) cs
    rw [Xr]
    have e2 := ih (pre ++ [r])
    rw [List.append_assoc, List.append_assoc] at e2
    have e3 : Dt (pre ++ r :: (R.map (fun r c => k * r c) ++ B)) cs = k ^ R.length * Dt (pre ++ r :: (R ++ B)) cs := e2
    rw [e3, Int.pow_succ]
    grind
def Sg (e : Int) : Prop := e = 1 \/ e = -1
theorem Sg.mul {a b : Int} (ha : Sg a) (hb : Sg b) : Sg (a * b) := by
  rcases ha with rfl | rfl <;> rcases hb with rfl | rfl <;> simp [Sg]
theorem Sg.sq {a : Int} (ha : Sg a) : a * a = 1 := by rcases ha with rfl | rfl <;> rfl
theorem Z7 (a : C -> Int) (post : List (C -> Int)) : ∀ B : List (C -> Int), ∃ e, Sg e /\ ∀ cs, Dt (a :: (B ++ post)) cs = e * Dt (B ++ a :: post) cs
  | [] => ⟨1, .inl rfl, fun cs => by simp⟩
  | b :: B => by
    obtain ⟨e, he, h⟩ := Z7 a post B
    refine ⟨-e, by rcases he with rfl | rfl <;> simp [Sg], fun cs => ?_⟩
    show Dt (a :: b :: (B ++ post)) cs = _
    rw [V7]
    show -La b (Dt (a :: (B ++ post))) cs = -e * La b (Dt (B ++ a :: post)) cs
    have e1 : Dt (a :: (B ++ post)) = fun y => e * Dt (B ++ a :: post) y := funext h
    rw [e1, R7]
    grind
theorem Te (B : List (C -> Int)) : ∀ (A : List (C -> Int)), ∃ e, Sg e /\ ∀ cs, Dt (A ++ B) cs = e * Dt (B ++ A) cs
  | [] => ⟨1, .inl rfl, fun cs => by simp⟩
  | a :: A => by
    obtain ⟨e, he, h⟩ := Te B A
    obtain ⟨e', he', h'⟩ := Z7 a A B
    refine ⟨e * e', he.mul he', fun cs => ?_⟩
    show La a (Dt (A ++ B)) cs = _
    have e1 : Dt (A ++ B) = fun y => e * Dt (B ++ A) y := funext h
    rw [e1, R7]
    have := h' cs
    show e * Dt (a :: (B ++ A)) cs = _
    rw [this]
    grind
theorem Wc {c : C} : ∀ {rows : List (C -> Int)}, (∀ r ∈ rows, r c = 0) -> ∀ {cs : List C}, c ∈ cs -> Dt rows cs = 0
  | [], _, c' :: cs, _ => rfl
  | r :: rows, h, cs, hc => by
    have hr := h r List.mem_cons_self
    have ih : ∀ ds : List C, c ∈ ds -> Dt rows ds = 0 := fun ds hd => Wc (fun x hx => h x (List.mem_cons_of_mem _ hx)) hd
    show La r (Dt rows) cs = 0
    have key : ∀ (cs : List C) (f : List C -> Int), c ∈ cs -> (∀ ds, c ∈ ds -> f ds = 0) -> La r f cs = 0 := fun cs => by
      induction cs with
      | nil => intro f h; cases h
      | cons d ds ih2 =>
        intro f h hf
        rw [La]
        by_cases hd : c ∈ ds
        . rw [hf ds hd, ih2 (fun x => f (d :: x)) hd (fun e he => hf _ (List.mem_cons_of_mem _ he))]
          simp
        . have : c = d := by
            rcases List.mem_cons.mp h with z | z
            . exact z
            . exact absurd z hd
          subst this
          rw [hr]
          have e : (fun x => f (c :: x)) = fun _ => 0 := by funext x; exact hf _ List.mem_cons_self
          rw [e, Rb]
          simp
    exact key cs (Dt rows) hc ih
theorem Ah9 {c : C} {r : C -> Int} {rows : List (C -> Int)} (h : ∀ s ∈ rows, s c = 0) (cs : List C) : Dt (r :: rows) (c :: cs) = r c * Dt rows cs := by
  show La r (Dt rows) (c :: cs) = _
  rw [La]
  have e : (fun x => Dt rows (c :: x)) = fun _ => 0 := by funext x; exact Wc h List.mem_cons_self
  rw [e, Rb]
  simp
theorem Aei (r : C -> Int) (c : C) : Dt [r] [c] = r c := by simp [Dt, La]
end
end Z
namespace Z
def shr (a : Nat) (F : Nat -> Nat -> Int) : Nat × Nat -> Int := fun c => if a <= c.2 then F c.1 (c.2 - a) else 0
def blk (F : Nat -> Nat -> Int) : Nat -> List (Nat × Nat -> Int)
  | 0 => []
  | a + 1 => shr a F :: blk F a
theorem Oa (F : Nat -> Nat -> Int) : ∀ a, (blk F a).length = a
  | 0 => rfl
  | a + 1 => by rw [blk, List.length_cons, Oa F a]
theorem Afu {F : Nat -> Nat -> Int} {a s : Nat} (h : s < a) : shr s F ∈ blk F a := by
  induction a with
  | zero => omega
  | succ a ih =>
    rw [blk]
    by_cases e : s = a
    . subst e; exact List.mem_cons_self
    . exact List.mem_cons_of_mem _ (ih (by omega))
theorem Mr {F : Nat -> Nat -> Int} {r : Nat × Nat -> Int} : ∀ {a : Nat}, r ∈ blk F a -> ∃ s, s < a /\ r = shr s F
  | 0, h => by cases h
  | a + 1, h => by
    rcases List.mem_cons.mp h with rfl | h
    . exact ⟨a, by omega, rfl⟩
    . obtain ⟨s, h1, h2⟩ := Mr h
      exact ⟨s, by omega, h2⟩
def dn (lo : Nat) : Nat -> List (Nat × Nat)
  | 0 => []
  | b + 1 => (0, lo + b) :: dn lo b
def Dg (F : Nat -> Nat -> Int) (n : Nat) : Prop := ∀ i, n <= i -> F 0 i = 0
theorem peel {G : Nat -> Nat -> Int} {m t lo b K : Nat} {rest : List (Nat × Nat -> Int)} {l : Nat × Nat} (hG : Dg G (m + 1)) (hK : ∀ r ∈ rest, ∀ i, K <= i -> r (0, i) = 0) (e : lo + b = m + t) (hk : K <= m + t) :
    ∀ u, Dt (blk G (t + u) ++ rest) (dn lo (b + u) ++ [l]) = G 0 m ^ u * Dt (blk G t ++ rest) (dn lo b ++ [l])
  | 0 => by simp
  | u + 1 => by
    show Dt (shr (t + u) G :: (blk G (t + u) ++ rest)) ((0, lo + (b + u)) :: (dn lo (b + u) ++ [l])) = _
    rw [Ah9]
    . rw [peel hG hK e hk u]
      have e1 : shr (t + u) G (0, lo + (b + u)) = G 0 m := by
        unfold shr
        rw [if_pos (show t + u <= lo + (b + u) by omega)]
        show G 0 (lo + (b + u) - (t + u)) = _
        rw [show lo + (b + u) - (t + u) = m by omega]
      rw [e1, Int.pow_succ]
      grind
    . intro s hs
      rcases List.mem_append.mp hs with hs | hs
      . obtain ⟨t', h1, rfl⟩ := Mr hs
        unfold shr
        rw [if_pos (show t' <= lo + (b + u) by omega)]
        exact hG _ (by show m + 1 <= lo + (b + u) - t'; omega)
      . exact hK s hs _ (by omega)
def Sr (j : Nat) (F : Nat -> Nat -> Int) (n : Nat) (G : Nat -> Nat -> Int) (m : Nat) (l : Nat × Nat) : Int := Dt (blk F (m - j) ++ blk G (n - j)) (dn (j + 1) (n + m - 2 * j - 1) ++ [l])
theorem Ahg (G : Nat -> Nat -> Int) : ∀ (q : List Int) (s b : Nat), s + q.length <= b -> Sn (blk G b) (shr s fun c => mu q (G c))
  | [], s, b, _ => by
    have e : (shr s fun c => mu [] (G c)) = fun _ => 0 := by
      funext c
      unfold shr
      split <;> rfl
    rw [e]
    exact .zero
  | a :: q, s, b, h => by
    have e : (shr s fun c => mu (a :: q) (G c)) = fun c => a * shr s G c + (shr (s + 1) fun c => mu q (G c)) c := by
      funext c
      unfold shr
      by_cases h1 : s + 1 <= c.2
      . rw [if_pos (by omega), if_pos (by omega), if_pos h1]
        show a * G c.1 (c.2 - s) + sh (mu q (G c.1)) (c.2 - s) = _
        rw [show c.2 - s = (c.2 - (s + 1)) + 1 by omega]
        rfl
      . by_cases h2 : s <= c.2
        . rw [if_pos h2, if_pos h2, if_neg h1]
          show a * G c.1 (c.2 - s) + sh (mu q (G c.1)) (c.2 - s) = _
          rw [show c.2 - s = 0 by omega]
          rfl
        . rw [if_neg h2, if_neg h2, if_neg h1]
          simp
    rw [e]
    rw [List.length_cons] at h
    exact .add a (Afu (by omega)) (Ahg G q (s + 1) b (by omega))
theorem Wz {F G R : Nat -> Nat -> Int} {L : Int} {q : List Int} {b : Nat} (h : ∀ c i, L * F c i = R c i + mu q (G c) i) : ∀ a, a + q.length <= b + 1 -> Rel L (blk G b) (blk F a) (blk R a)
  | 0, _ => .nil
  | a + 1, hb => by
    refine .cons (Ahg G q a b (by omega)) (fun c => ?_) (Wz h a (by omega))
    unfold shr
    split
    . exact h _ _
    . simp
theorem Xy {R : Nat -> Nat -> Int} {k a : Nat} (hR : Dg R k) : ∀ r ∈ blk R a, ∀ i, k + a <= i + 1 -> r (0, i) = 0 := fun r hr i hi => by
  obtain ⟨s, h1, rfl⟩ := Mr hr
  unfold shr
  split
  . exact hR _ (by show k <= i - s; omega)
  . rfl
section
variable {F G R : Nat -> Nat -> Int} {n m k : Nat} {L : Int} {q : List Int}
theorem Ag1 (hG : Dg G (m + 1)) (hR : Dg R (k + 1)) (h : ∀ c i, L * F c i = R c i + mu q (G c) i) (hq : q.length <= n - m + 1) (hmn : m <= n) (j : Nat) (hj : j < m) (hk : j <= k) (hkm : k < m) :
    ∃ e, Sg e /\ ∀ l, L ^ (m - j) * Sr j F n G m l = e * (G 0 m ^ (n - k) * Sr j G m R k l) := by
  obtain ⟨e, he, hb⟩ := Te (blk G (n - j)) (blk R (m - j))
  refine ⟨e, he, fun l => ?_⟩
  unfold Sr
  have h1 := Aeh (Wz (F := F) (G := G) (R := R) h (m - j) (b := n - j) (by omega)) (dn (j + 1) (n + m - 2 * j - 1) ++ [l]) []
  rw [Oa, List.nil_append, List.nil_append] at h1
  rw [h1, hb]
  have h2 := peel (G := G) (m := m) (t := k - j) (lo := j + 1) (b := m + k - 2 * j - 1) (K := k + 1 + (m - j) - 1) (rest := blk R (m - j)) (l := l) hG (fun r hr i hi => Xy hR r hr i (by omega)) (by omega) (by omega) (n - k)
  rw [show k - j + (n - k) = n - j by omega, show m + k - 2 * j - 1 + (n - k) = n + m - 2 * j - 1 by omega] at h2
  rw [h2]
theorem Afb (hG : Dg G (m + 1)) (hR : Dg R m) (h : ∀ c i, L * F c i = R c i + mu q (G c) i) (hq : q.length <= n - m + 1) (hmn : m <= n) (hm : 1 <= m) :
    ∃ e, Sg e /\ ∀ l : Nat × Nat, L * Sr (m - 1) F n G m l = e * (G 0 m ^ (n - m + 1) * R l.1 l.2) := by
  obtain ⟨e, he, hb⟩ := Te (blk G (n - (m - 1))) (blk R (m - (m - 1)))
  refine ⟨e, he, fun l => ?_⟩
  unfold Sr
  have h1 := Aeh (Wz (F := F) (G := G) (R := R) h (m - (m - 1)) (b := n - (m - 1)) (by omega)) (dn (m - 1 + 1) (n + m - 2 * (m - 1) - 1) ++ [l]) []
  rw [Oa, List.nil_append, List.nil_append] at h1
  have e1 : m - (m - 1) = 1 := by omega
  rw [e1] at h1 hb ⊢
  rw [Int.pow_succ, Int.pow_zero, Int.one_mul] at h1
  rw [h1, hb]
  have h2 := peel (G := G) (m := m) (t := 0) (lo := m - 1 + 1) (b := 0) (K := m) (rest := blk R 1) (l := l) hG (fun r hr i hi => Xy hR r hr i (by omega)) (by omega) (by omega) (n - m + 1)
  rw [show 0 + (n - m + 1) = n - (m - 1) by omega] at h2
  rw [show n + m - 2 * (m - 1) - 1 = n - (m - 1) by omega, h2]
  congr 1
  congr 1
  show Dt [shr 0 R] [l] = _
  rw [Aei]
  rfl
theorem Ah6 (hG : Dg G (m + 1)) (hmn : m < n) (l : Nat × Nat) : Sr m F n G m l = G 0 m ^ (n - m - 1) * G l.1 l.2 := by
  unfold Sr
  rw [Nat.sub_self]
  show Dt ([] ++ blk G (n - m)) _ = _
  rw [List.nil_append]
  have h2 := peel (G := G) (m := m) (t := 1) (lo := m + 1) (b := 0) (K := 0) (rest := []) (l := l) hG (fun r hr => by cases hr) (by omega) (by omega) (n - m - 1)
  rw [show 1 + (n - m - 1) = n - m by omega, List.append_nil, List.append_nil] at h2
  rw [show n + m - 2 * m - 1 = 0 + (n - m - 1) by omega, h2]
  congr 1
  show Dt [shr 0 G] [l] = _
  rw [Aei]
  rfl
theorem U9 (T : Nat -> Nat -> Int) (β : Int) : ∀ a, blk (fun c i => β * T c i) a = (blk T a).map fun r c => β * r c
  | 0 => rfl
  | a + 1 => by
    rw [blk, blk, List.map_cons, U9 T β a]
    congr 1
    funext c
    unfold shr
    split <;> simp
theorem Ac4 (T : Nat -> Nat -> Int) (β : Int) (j : Nat) (l : Nat × Nat) : Sr j G m (fun c i => β * T c i) k l = β ^ (m - j) * Sr j G m T k l := by
  unfold Sr
  rw [U9]
  have h := Ac3 (k := β) (R := blk T (m - j)) [] (dn (j + 1) (m + k - 2 * j - 1) ++ [l]) (blk G (k - j))
  rw [List.append_nil, List.append_nil, Oa] at h
  exact h
end
theorem Mx {a : Int} (h : a ≠ 0) : ∀ n : Nat, a ^ n ≠ 0
  | 0 => by simp
  | n + 1 => by
    rw [Int.pow_succ]
    exact Int.mul_ne_zero (Mx h n) h
def Chn (F1 : Nat -> Nat -> Int) (n1 : Nat) (F2 : Nat -> Nat -> Int) (n2 : Nat) (F : Nat -> Nat -> Int) (n : Nat) (G : Nat -> Nat -> Int) (m : Nat) (l h : Int) : Prop :=
  ∀ j, j <= m -> j < n -> ∃ e, Sg e /\ ∀ c, h ^ (n - j - 1) * l ^ (m - j) * Sr j F1 n1 F2 n2 c = e * Sr j F n G m c
theorem Chn.start (F1 : Nat -> Nat -> Int) (n1 : Nat) (F2 : Nat -> Nat -> Int) (n2 : Nat) : Chn F1 n1 F2 n2 F1 n1 F2 n2 1 1 := fun j _ _ => ⟨1, .inl rfl, fun c => by rw [Int.one_pow, Int.one_pow]; simp⟩
section
variable {F1 F2 F G R T : Nat -> Nat -> Int} {n1 n2 n m k : Nat} {l h lg h' : Int} {q : List Int}
theorem Chn.rest (ch : Chn F1 n1 F2 n2 F n G m l h) (hG : Dg G (m + 1)) (hR : Dg R m) (hq : q.length <= n - m + 1) (hmn : m <= n) (hm : 1 <= m) (hl : G 0 m ≠ 0)
    (eq : ∀ c i, G 0 m ^ (n - m + 1) * F c i = R c i + mu q (G c) i) : ∃ e, Sg e /\ ∀ c i, R c i = l * h ^ (n - m) * (e * Sr (m - 1) F1 n1 F2 n2 (c, i)) := by
  obtain ⟨e, he, h1⟩ := ch (m - 1) (by omega) (by omega)
  obtain ⟨e', he', h2⟩ := Afb (F := F) (n := n) hG hR eq hq hmn hm
  refine ⟨e * e', he.mul he', fun c i => ?_⟩
  have a1 := h1 (c, i)
  have a2 := h2 (c, i)
  rw [show n - (m - 1) - 1 = n - m by omega, show m - (m - 1) = 1 by omega, Int.pow_succ, Int.pow_zero, Int.one_mul] at a1
  have hp := Mx hl (n - m + 1)
  generalize G 0 m ^ (n - m + 1) = L at *
  generalize Sr (m - 1) F n G m (c, i) = s at *
  have a3 : s = e' * R c i := by
    have : L * s = L * (e' * R c i) := by rw [a2]; grind
    exact Int.eq_of_mul_eq_mul_left hp this
  rw [a3] at a1
  have s1 := he.sq
  have s2 := he'.sq
  have : e * e' * (h ^ (n - m) * l * Sr (m - 1) F1 n1 F2 n2 (c, i)) = R c i := by
    rw [a1]
    have : e * e' * (e * (e' * R c i)) = (e * e) * (e' * e') * R c i := by grind
    rw [this, s1, s2]
    simp
  rw [<- this]
  grind
theorem Chn.height (ch : Chn F1 n1 F2 n2 F n G m l h) (hG : Dg G (m + 1)) (hmn : m < n) : ∃ e, Sg e /\ h ^ (n - m - 1) * (e * Sr m F1 n1 F2 n2 (0, m)) = G 0 m ^ (n - m) := by
  obtain ⟨e, he, h1⟩ := ch m (Nat.le_refl _) hmn
  refine ⟨e, he, ?_⟩
  have a1 := h1 (0, m)
  rw [Nat.sub_self, Int.pow_zero, Int.mul_one, Ah6 hG hmn] at a1
  have s1 := he.sq
  have e2 : G 0 m ^ (n - m) = G 0 m ^ (n - m - 1) * G 0 m := by
    rw [<- Int.pow_succ, show (n - m - 1).succ = n - m by omega]
  rw [e2]
  have : h ^ (n - m - 1) * (e * Sr m F1 n1 F2 n2 (0, m)) = e * (h ^ (n - m - 1) * Sr m F1 n1 F2 n2 (0, m)) := by grind
  rw [this, a1]
  have : e * (e * (G 0 m ^ (n - m - 1) * G 0 m)) = (e * e) * (G 0 m ^ (n - m - 1) * G 0 m) := by grind
  rw [this, s1]
  simp
theorem Chn.next (ch : Chn F1 n1 F2 n2 F n G m l h) (hG : Dg G (m + 1)) (hT : Dg T (k + 1)) (hq : q.length <= n - m + 1) (hmn : m <= n) (hkm : k < m) (hl : G 0 m ≠ 0) (l0 : l ≠ 0) (h0 : h ≠ 0)
    (eq : ∀ c i, G 0 m ^ (n - m + 1) * F c i = l * h ^ (n - m) * T c i + mu q (G c) i) (hh : (n = m /\ h' = h) \/ (m < n /\ h ^ (n - m - 1) * h' = G 0 m ^ (n - m))) : Chn F1 n1 F2 n2 G m T k (G 0 m) h' := by
  intro j hj hjm
  obtain ⟨e, he, h1⟩ := ch j (by omega) (by omega)
  obtain ⟨e', he', h2⟩ := Ag1 (F := F) (n := n) (R := fun c i => l * h ^ (n - m) * T c i) (k := k) hG (fun i hi => by show l * h ^ (n - m) * T 0 i = 0; rw [hT i hi]; simp) eq hq hmn j hjm hj hkm
  refine ⟨e * e', he.mul he', fun c => ?_⟩
  have a1 := h1 c
  have a2 := h2 c
  rw [Ac4] at a2
  generalize Sr j F1 n1 F2 n2 c = S at *
  generalize Sr j F n G m c = s at *
  generalize Sr j G m T k c = s' at *
  generalize hlg : G 0 m = lg at *
  have s1 := he.sq
  have s2 := he'.sq
  obtain ⟨E, hE⟩ : ∃ E, m - j = E + 1 := ⟨m - j - 1, by omega⟩
  obtain ⟨d, hd⟩ : ∃ d, n - m = d := ⟨_, rfl⟩
  have hn1 : n - j - 1 = d + E := by omega
  have hnk : n - k + (k - j) = d + E + 1 := by omega
  rw [hE, hd] at a2
  rw [hE, hn1] at a1
  rw [show m - j - 1 = E by omega]
  rw [hd] at hh
  have key : lg ^ (n - k) * h ^ (d * (E + 1)) * (h' ^ E * lg ^ (k - j)) = (lg ^ (d + 1)) ^ (E + 1) * h ^ (d + E) := by
    have p1 : lg ^ (n - k) * lg ^ (k - j) = lg ^ (d + E + 1) := by rw [<- Int.pow_add, hnk]
    rcases hh with ⟨hz, rfl⟩ | ⟨hz, hh⟩
    . have d0 : d = 0 := by omega
      subst d0
      rw [Nat.zero_mul, Int.pow_zero, Int.mul_one, Nat.zero_add, Nat.zero_add, Int.pow_one]
      rw [Nat.zero_add] at p1
      rw [<- p1]
      grind
    . obtain ⟨d', hd'⟩ : ∃ d', d = d' + 1 := ⟨d - 1, by omega⟩
      subst hd'
      rw [show d' + 1 - 1 = d' by omega] at hh
      have p2 : (h ^ d' * h') ^ E = (lg ^ (d' + 1)) ^ E := by rw [hh]
      rw [Int.mul_pow] at p2
      have p3 : h ^ ((d' + 1) * (E + 1)) = (h ^ d') ^ E * h ^ (d' + 1 + E) := by
        rw [<- Int.pow_mul, <- Int.pow_add]
        congr 1
        rw [Nat.add_mul, Nat.mul_add]
        omega
      have p4 : (lg ^ (d' + 1 + 1)) ^ (E + 1) = (lg ^ (d' + 1)) ^ E * lg ^ (d' + 1 + E + 1) := by
        rw [<- Int.pow_mul, <- Int.pow_mul, <- Int.pow_add]
        congr 1
        rw [Nat.add_mul, Nat.mul_add]
        omega
      rw [p3, p4, <- p2, <- p1]
      grind
  have big : lg ^ (n - k) * h ^ (d * (E + 1)) ≠ 0 := Int.mul_ne_zero (Mx hl _) (Mx h0 _)
  have lne : l ^ (E + 1) ≠ 0 := Mx l0 _
  have b1 : (l * h ^ d) ^ (E + 1) = l ^ (E + 1) * h ^ (d * (E + 1)) := by rw [Int.mul_pow, <- Int.pow_mul]
  rw [b1] at a2
  refine Int.eq_of_mul_eq_mul_left big ?_
  refine Int.eq_of_mul_eq_mul_left lne ?_
  have c1 : l ^ (E + 1) * (lg ^ (n - k) * h ^ (d * (E + 1)) * (h' ^ E * lg ^ (k - j) * S)) = (lg ^ (d + 1)) ^ (E + 1) * (h ^ (d + E) * l ^ (E + 1) * S) := by
    have : l ^ (E + 1) * (lg ^ (n - k) * h ^ (d * (E + 1)) * (h' ^ E * lg ^ (k - j) * S)) = (lg ^ (n - k) * h ^ (d * (E + 1)) * (h' ^ E * lg ^ (k - j))) * l ^ (E + 1) * S := by grind
    rw [this, key]
    grind
  rw [c1, a1]
  have c2 : (lg ^ (d + 1)) ^ (E + 1) * (e * s) = e * ((lg ^ (d + 1)) ^ (E + 1) * s) := by grind
  rw [c2, a2]
  grind
end
end Z
namespace Z
theorem Aed {C : Type} {r : C -> Int} {M B : Nat} (hr : ∀ c, (r c).natAbs <= M) : ∀ (cs : List C) (f : List C -> Int), (∀ ds, ds.length + 1 = cs.length -> (f ds).natAbs <= B) -> (La r f cs).natAbs <= cs.length * (M * B)
  | [], f, _ => by simp [La]
  | c :: cs, f, h => by
    rw [La]
    have h1 : (f cs).natAbs <= B := h cs (by simp)
    have h2 := Aed hr cs (fun x => f (c :: x)) fun ds hd => h (c :: ds) (by simp; omega)
    have h3 : (r c * f cs).natAbs <= M * B := by rw [Int.natAbs_mul]; exact Nat.mul_le_mul (hr c) h1
    rw [List.length_cons, Nat.succ_mul]
    omega
theorem Aej {C : Type} {M L : Nat} (hL : 1 <= L * M) : ∀ (rows : List (C -> Int)) (cs : List C), (∀ r ∈ rows, ∀ c, (r c).natAbs <= M) -> cs.length <= L -> (Dt rows cs).natAbs <= (L * M) ^ rows.length
  | [], [], _, _ => by simp [Dt]
  | [], _ :: _, _, _ => by simp [Dt]
  | r :: rows, cs, h, hl => by
    show (La r (Dt rows) cs).natAbs <= _
    have h1 := Aed (r := r) (M := M) (B := (L * M) ^ rows.length) (h r List.mem_cons_self) cs (Dt rows) fun ds hd => Aej hL rows ds (fun s hs => h s (List.mem_cons_of_mem _ hs)) (by omega)
    rw [List.length_cons, Nat.pow_succ, Nat.mul_comm _ (L * M)]
    refine Nat.le_trans h1 ?_
    rw [Nat.mul_assoc]
    exact Nat.mul_le_mul_right _ hl
theorem Ad4 (lo : Nat) : ∀ b, (dn lo b).length = b
  | 0 => rfl
  | b + 1 => by rw [dn, List.length_cons, Ad4 lo b]
theorem Ab7 {F : Nat -> Nat -> Int} {M : Nat} (h : ∀ c i, (F c i).natAbs <= M) (a : Nat) (c : Nat × Nat) : (shr a F c).natAbs <= M := by
  unfold shr
  split
  . exact h _ _
  . simp
theorem Aec {F G : Nat -> Nat -> Int} {n m j b : Nat} (hF : ∀ c i, (F c i).natAbs <= 2 ^ b) (hG : ∀ c i, (G c i).natAbs <= 2 ^ b) (hn : j <= n) (hm : j <= m) (h64 : n + m - 2 * j <= 64) (c : Nat × Nat) : (Sr j F n G m c).natAbs <= 2 ^ ((b + 6) * (n + m - 2 * j)) := by
  unfold Sr
  have e : (2 : Nat) ^ 6 * 2 ^ b = 2 ^ (b + 6) := by rw [<- Nat.pow_add, Nat.add_comm]
  have p1 : 1 <= 2 ^ 6 * 2 ^ b := by rw [e]; exact Nat.one_le_two_pow
  have h := Aej (M := 2 ^ b) (L := 2 ^ 6) p1 (blk F (m - j) ++ blk G (n - j)) (dn (j + 1) (n + m - 2 * j - 1) ++ [c]) (fun r hr c => by
    rcases List.mem_append.mp hr with hr | hr
    . obtain ⟨s, _, rfl⟩ := Mr hr
      exact Ab7 hF _ _
    . obtain ⟨s, _, rfl⟩ := Mr hr
      exact Ab7 hG _ _) (by rw [List.length_append, Ad4, List.length_singleton]; show _ <= 64; omega)
  rw [List.length_append, Oa, Oa, e, <- Nat.pow_mul] at h
  rw [show m - j + (n - j) = n + m - 2 * j by omega] at h
  exact h
theorem Ae3 {F G : Nat -> Nat -> Int} {n m j l : Nat} (hF : ∀ c i, l <= i -> F c i = 0) (hG : ∀ c i, l <= i -> G c i = 0) (hn : n < l) (hm : m < l) (c i : Nat) (hi : 2 * l <= i) : Sr j F n G m (c, i) = 0 := by
  unfold Sr
  refine Wc (c := (c, i)) (fun r hr => ?_) (by simp)
  rcases List.mem_append.mp hr with hr | hr
  . obtain ⟨s, hs, rfl⟩ := Mr hr
    unfold shr
    split
    . exact hF _ _ (by show l <= i - s; omega)
    . rfl
  . obtain ⟨s, hs, rfl⟩ := Mr hr
    unfold shr
    split
    . exact hG _ _ (by show l <= i - s; omega)
    . rfl
theorem Afl (x y : Nat) : 4 * (x * y) <= (x + y) * (x + y) := by
  rcases Nat.le_total x y with h | h
  . obtain ⟨d, rfl⟩ := Nat.exists_eq_add_of_le h
    have : (x + (x + d)) * (x + (x + d)) = 4 * (x * (x + d)) + d * d := by grind
    omega
  . obtain ⟨d, rfl⟩ := Nat.exists_eq_add_of_le h
    have : (y + d + y) * (y + d + y) = 4 * ((y + d) * y) + d * d := by grind
    omega
theorem Yn {l b x n1 n2 s : Nat} (h1 : n1 < l) (h2 : n2 < l) (hx : x <= n1) (hs : s <= x) : 2 * (s * ((b + 6) * (n1 + n2 - 2 * x) + 1)) <= l * l * (b + 6) + 2 * l := by
  by_cases hz : n1 + n2 <= 2 * x
  . rw [show n1 + n2 - 2 * x = 0 by omega]
    have := Nat.zero_le (l * l * (b + 6))
    omega
  . have e1 : 2 * (x * (n1 + n2 - 2 * x)) <= l * l := by
      have h3 := Afl (2 * x) (n1 + n2 - 2 * x)
      have h4 : 2 * x + (n1 + n2 - 2 * x) = n1 + n2 := by omega
      rw [h4] at h3
      have h5 : (n1 + n2) * (n1 + n2) <= (2 * l) * (2 * l) := Nat.mul_le_mul (by omega) (by omega)
      have h6 : 4 * (2 * x * (n1 + n2 - 2 * x)) = 4 * (2 * (x * (n1 + n2 - 2 * x))) := by rw [Nat.mul_assoc]
      have h7 : (2 * l) * (2 * l) = 4 * (l * l) := by grind
      omega
    have e2 : s * ((b + 6) * (n1 + n2 - 2 * x)) <= x * ((b + 6) * (n1 + n2 - 2 * x)) := Nat.mul_le_mul_right _ hs
    have e3 : x * ((b + 6) * (n1 + n2 - 2 * x)) = (x * (n1 + n2 - 2 * x)) * (b + 6) := by grind
    have e4 := Nat.mul_le_mul_right (b + 6) e1
    have e5 : 2 * (x * (n1 + n2 - 2 * x)) * (b + 6) = 2 * (x * (n1 + n2 - 2 * x) * (b + 6)) := by rw [Nat.mul_assoc]
    rw [Nat.mul_add, Nat.mul_one]
    omega
end Z
namespace Z
def Dv (d f : List Int) : Prop := ∃ (c : Int) (u : List Int), c ≠ 0 /\ ∀ i, c * co f i = mu u (co d) i
theorem Jp (a : Int) (u : List Int) (f : Nat -> Int) (i : Nat) : mu (u.map (a * ·)) f i = a * mu u f i := congrFun (Ed f a u) i
theorem En {f g : Nat -> Int} (h : ∀ i, f i = g i) (p : List Int) (i : Nat) : mu p f i = mu p g i := by
  have : f = g := funext h
  rw [this]
theorem Dv.nil (d : List Int) : Dv d [] := ⟨1, [], by decide, fun i => by rw [Ay]; rfl⟩
theorem Dv.refl (d : List Int) : Dv d d := ⟨1, [1], by decide, fun i => by
  show 1 * co d i = 1 * co d i + sh (mu [] (co d)) i
  have : sh (mu [] (co d)) i = 0 := by cases i <;> rfl
  omega⟩
theorem Dv.congr {d f g : List Int} (h : Dv d f) (e : ∀ i, co f i = co g i) : Dv d g := by
  obtain ⟨c, u, hc, hu⟩ := h
  exact ⟨c, u, hc, fun i => by rw [<- e]; exact hu i⟩
theorem Dv.trans {d f g : List Int} (h1 : Dv d f) (h2 : Dv f g) : Dv d g := by
  obtain ⟨c, u, hc, hu⟩ := h1
  obtain ⟨e, v, he, hv⟩ := h2
  refine ⟨c * e, ml v u, Int.mul_ne_zero hc he, fun i => ?_⟩
  rw [Jw]
  have : mu v (fun k => c * co f k) i = c * mu v (co f) i := congrFun (Io v c (co f)) i
  rw [<- En hu v i, this, <- hv]
  rw [Int.mul_assoc]
theorem Dv.comb {d f g h : List Int} (hf : Dv d f) (hg : Dv d g) {k : Int} (hk : k ≠ 0) {a b : List Int} (e : ∀ i, k * co h i = mu a (co f) i + mu b (co g) i) : Dv d h := by
  obtain ⟨c, u, hc, hu⟩ := hf
  obtain ⟨c', v, hc', hv⟩ := hg
  refine ⟨c * c' * k, al ((ml a u).map (c' * ·)) ((ml b v).map (c * ·)), Int.mul_ne_zero (Int.mul_ne_zero hc hc') hk, fun i => ?_⟩
  rw [Rm]
  dsimp only
  rw [Jp, Jp, Jw, Jw]
  have e1 : mu a (mu u (co d)) i = c * mu a (co f) i := by
    rw [<- En hu a i]
    exact congrFun (Io a c (co f)) i
  have e2 : mu b (mu v (co d)) i = c' * mu b (co g) i := by
    rw [<- En hv b i]
    exact congrFun (Io b c' (co g)) i
  rw [e1, e2, Int.mul_assoc, e]
  grind
theorem Dv.mul_left {d f : List Int} (h : Dv d f) (a : List Int) : Dv d (tm a f) := by
  obtain ⟨c, u, hc, hu⟩ := h
  refine ⟨c, ml a u, hc, fun i => ?_⟩
  rw [Jw, Bv, <- En hu a i]
  exact (congrFun (Io a c (co f)) i).symm
theorem Dv.prod (a d : List Int) : Dv d (tm a d) := (Dv.refl d).mul_left a
theorem Dv.zero {f : List Int} (hf : Tr f) (h : Dv [] f) : f = [] := by
  obtain ⟨c, u, hc, hu⟩ := h
  refine hf.ext (.inl rfl) fun i => ?_
  have := hu i
  have e : mu u (co []) i = 0 := by
    have : mu u (fun _ => 0) i = 0 := congrFun (Qi u) i
    rw [<- this]
    exact En (fun k => Ay k) u i
  rw [e] at this
  rw [Ay]
  rcases Int.mul_eq_zero.mp this with z | z
  . exact absurd z hc
  . exact z
theorem Dv.scale {d f g : List Int} (h : Dv d f) {a b : Int} (hb : b ≠ 0) (e : ∀ i, b * co g i = a * co f i) : Dv d g := by
  obtain ⟨c, u, hc, hu⟩ := h
  refine ⟨c * b, u.map (a * ·), Int.mul_ne_zero hc hb, fun i => ?_⟩
  rw [Jp, <- hu, Int.mul_assoc, e]
  grind
theorem Dv.of_scale {d f g : List Int} (h : Dv d f) {a b : Int} (ha : a ≠ 0) (e : ∀ i, b * co g i = a * co d i) : Dv g f := by
  obtain ⟨c, u, hc, hu⟩ := h
  refine ⟨c * a, u.map (b * ·), Int.mul_ne_zero hc ha, fun i => ?_⟩
  rw [Jp]
  have e1 : mu u (fun k => a * co d k) i = a * mu u (co d) i := congrFun (Io u a (co d)) i
  have e2 : mu u (fun k => b * co g k) i = b * mu u (co g) i := congrFun (Io u b (co g)) i
  rw [<- e2, En e u i, e1, <- hu]
  grind
theorem Dv.len {d f : List Int} (hd : Tr d) (hf : Tr f) (n : f ≠ []) (h : Dv d f) : d ≠ [] /\ d.length <= f.length := by
  have hd0 : d ≠ [] := fun z => by rw [z] at h; exact n (h.zero hf)
  refine ⟨hd0, ?_⟩
  obtain ⟨c, u, hc, hu⟩ := h
  have hcf : ∀ i, co (tm u d) i = c * co f i := fun i => by rw [Bv, hu]
  have ln : tm u d ≠ [] := fun z => by
    have := hcf (f.length - 1)
    rw [z, Ay] at this
    rcases Int.mul_eq_zero.mp this.symm with q | q
    . exact hc q
    . exact hf.lead n q
  have hu0 : trim u ≠ [] := fun z => ln (by
    refine (Dj u d).ext (.inl rfl) fun i => ?_
    rw [Bv, <- congrFun (Bm (co d) _ _ (Am u)) i, z, Ay]
    rfl)
  have e1 : tm u d = tm (trim u) d := (Dj _ _).ext (Dj _ _) fun i => by rw [Bv, Bv, congrFun (Bm (co d) _ _ (Am u)) i]
  have l1 := Ng (Av u) hd hu0 hd0
  have l2 : (tm u d).length <= f.length := by
    refine Nat.le_of_not_lt fun z => ?_
    have := (Dj u d).lead ln
    rw [hcf, Bk (by omega)] at this
    simp at this
  have l3 := List.length_pos_iff.mpr hu0
  rw [e1] at l2
  omega
structure Gc (p q g : List Int) : Prop where
  tr : Tr g
  pl : pln g = g
  one : Dv g p
  two : Dv g q
  all : ∀ d, Dv d p -> Dv d q -> Dv d g
theorem Gc.symm {p q g : List Int} (h : Gc p q g) : Gc q p g := ⟨h.tr, h.pl, h.two, h.one, fun d a b => h.all d b a⟩
theorem Z6 {g : List Int} (hg : Tr g) (n : g ≠ []) (e : pln g = g) : 0 < co g (g.length - 1) := by
  have := Pk hg n
  rw [e] at this
  exact this
theorem Ab4 {g h : List Int} (tg : Tr g) (th : Tr h) (pg : pln g = g) (ph : pln h = h) (a : Dv g h) (b : Dv h g) : g = h := by
  by_cases n : g = []
  . subst n
    exact (a.zero th).symm
  . have nh : h ≠ [] := fun z => by rw [z] at b; exact n (b.zero tg)
    have l1 := (a.len tg th nh).2
    have l2 := (b.len th tg n).2
    obtain ⟨c, u, hc, hu⟩ := a
    have hcf : ∀ i, co (tm u g) i = c * co h i := fun i => by rw [Bv, hu]
    have ln : tm u g ≠ [] := fun z => by
      have := hcf (h.length - 1)
      rw [z, Ay] at this
      rcases Int.mul_eq_zero.mp this.symm with q | q
      . exact hc q
      . exact th.lead nh q
    have hu0 : trim u ≠ [] := fun z => ln (by
      refine (Dj u g).ext (.inl rfl) fun i => ?_
      rw [Bv, <- congrFun (Bm (co g) _ _ (Am u)) i, z, Ay]
      rfl)
    have e1 : tm u g = tm (trim u) g := (Dj _ _).ext (Dj _ _) fun i => by rw [Bv, Bv, congrFun (Bm (co g) _ _ (Am u)) i]
    have l3 := Ng (Av u) tg hu0 n
    have l4 : (tm u g).length <= h.length := by
      refine Nat.le_of_not_lt fun z => ?_
      have := (Dj u g).lead ln
      rw [hcf, Bk (by omega)] at this
      simp at this
    rw [e1] at l4
    have l5 := List.length_pos_iff.mpr hu0
    have lu : (trim u).length = 1 := by omega
    obtain ⟨k, hk⟩ : ∃ k, trim u = [k] := by
      match hm : trim u, lu with
      | [k], _ => exact ⟨k, rfl⟩
    have hk0 : k ≠ 0 := by
      have := (Av u).lead hu0
      rw [hk] at this
      exact this
    have eq : ∀ i, k * co g i = c * co h i := fun i => by
      rw [<- hcf, e1, Bv, hk]
      show k * co g i = k * co g i + sh (mu [] (co g)) i
      have : sh (mu [] (co g)) i = 0 := by cases i <;> rfl
      omega
    have q1 : Prim g := by have := Jg tg n; rw [pg] at this; exact this
    have q2 : Prim h := by have := Jg th nh; rw [ph] at this; exact this
    have r := X3 hk0 hc q1 q2 eq (Z6 tg n pg) (fun i hi => Bk (by omega)) (Z6 th nh ph) (fun i hi => Bk (by omega))
    exact tg.ext th r.2
theorem Gc.uniq {p q g h : List Int} (a : Gc p q g) (b : Gc p q h) : g = h := Ab4 a.tr b.tr a.pl b.pl (b.all g a.one a.two) (a.all h b.one b.two)
theorem Oz {r : List Int} (hr : Tr r) : Dv (pln r) r /\ Dv r (pln r) := by
  by_cases n : r = []
  . subst n
    exact ⟨Dv.nil _, Dv.refl _⟩
  . have h := Ma hr n
    have u0 := T5 hr n
    exact ⟨(Dv.refl (pln r)).scale (a := un r) (b := 1) (by decide) fun i => by rw [h]; omega, (Dv.refl r).scale (a := 1) (b := un r) u0 fun i => by rw [h]; omega⟩
theorem Nb {r : List Int} (hr : Tr r) : pln (pln r) = pln r := by
  by_cases n : r = []
  . subst n; rfl
  . exact (Acb (Mf hr) (T5 hr n) hr fun k => (Ma hr n k).symm).symm
def N7 (f g p q : List Int) : Prop := ∀ d, (Dv d f /\ Dv d g) ↔ (Dv d p /\ Dv d q)
theorem N7.refl (f g : List Int) : N7 f g f g := fun _ => Iff.rfl
theorem N7.trans {f g p q r s : List Int} (h : N7 f g p q) (k : N7 p q r s) : N7 f g r s := fun d => (h d).trans (k d)
theorem Zc {f g t q : List Int} {L k : Int} (hL : L ≠ 0) (hk : k ≠ 0) (e : ∀ i, L * co f i = k * co t i + mu q (co g) i) : N7 g t f g := fun d => by
  constructor
  . rintro ⟨a, b⟩
    refine ⟨Dv.comb a b hL (a := q) (b := [k]) fun i => ?_, a⟩
    rw [e]
    have : mu [k] (co t) i = k * co t i := by
      show k * co t i + sh (mu [] (co t)) i = _
      have : sh (mu [] (co t)) i = 0 := by cases i <;> rfl
      omega
    rw [this]
    omega
  . rintro ⟨a, b⟩
    refine ⟨b, Dv.comb a b hk (a := [L]) (b := q.map (-1 * ·)) fun i => ?_⟩
    rw [Jp]
    have : mu [L] (co f) i = L * co f i := by
      show L * co f i + sh (mu [] (co f)) i = _
      have : sh (mu [] (co f)) i = 0 := by cases i <;> rfl
      omega
    rw [this, e]
    omega
theorem Aie {f p q : List Int} (hf : Tr f) (h : N7 f [] p q) : Gc p q (pln f) := by
  have ⟨a, b⟩ := Oz hf
  have ⟨c, d⟩ := (h (pln f)).mp ⟨a, Dv.nil _⟩
  exact ⟨Mf hf, Nb hf, c, d, fun x hx hy => ((h x).mpr ⟨hx, hy⟩).1.trans b⟩
theorem Jm (c : Int) (hc : c ≠ 0) (f : List Int) : Dv [c] f := ⟨c, f, hc, fun i => by
  have e : mu f (fun i => c * if i = 0 then 1 else 0) i = c * mu f (fun i => if i = 0 then 1 else 0) i := congrFun (Io f c _) i
  have : co [c] = fun i => c * if i = 0 then 1 else 0 := by
    funext i
    cases i with
    | zero => rw [Bu]; simp
    | succ i => rw [Bx, Ay]; simp
  rw [this, e, Xn]⟩
theorem Acj {f p q : List Int} {c : Int} (hc : c ≠ 0) (h : N7 f [c] p q) : Gc p q (pln [c]) := by
  have tc : Tr [c] := .inr ⟨by simp, by simpa using hc⟩
  have ⟨a, b⟩ := Oz tc
  have u : ∀ x, Dv (pln [c]) x := fun x => a.trans (Jm c hc x)
  exact ⟨Mf tc, Nb tc, u p, u q, fun x hx hy => ((h x).mpr ⟨hx, hy⟩).2.trans b⟩
end Z
namespace Z
theorem Aba : ∀ (d n : Nat) (f : Nat -> Nat), (∀ i, i < n -> f i < d) -> (∀ i j, i < n -> j < n -> f i = f j -> i = j) -> n <= d
  | 0, n, f, h, _ => by
    refine Nat.le_of_not_lt fun z => ?_
    exact absurd (h 0 (by omega)) (Nat.not_lt_zero _)
  | d + 1, n, f, h, inj => by
    by_cases hx : ∃ i, i < n /\ f i = d
    . obtain ⟨i0, h0, e0⟩ := hx
      have := Aba d (n - 1) (fun k => f (if k < i0 then k else k + 1)) (fun i hi => by
        have a := h (if i < i0 then i else i + 1) (by split <;> omega)
        have b : f (if i < i0 then i else i + 1) ≠ d := fun z => by
          have := inj _ _ (by split <;> omega) h0 (z.trans e0.symm)
          split at this <;> omega
        omega) (fun i j hi hj e => by
        have := inj _ _ (by split <;> omega) (by split <;> omega) e
        split at this <;> split at this <;> omega)
      omega
    . have := Aba d n f (fun i hi => by
        have a := h i hi
        have b : f i ≠ d := fun z => hx ⟨i, hi, z⟩
        omega) inj
      omega
def pm (m : Nat) : Nat -> Nat -> Nat -> Nat
  | 0, _, _ => 1 % m
  | k + 1, b, e => if e % 2 = 1 then b * pm m k (b * b % m) (e / 2) % m else pm m k (b * b % m) (e / 2) % m
theorem Afo (m : Nat) : ∀ (k b e : Nat), e < 2 ^ k -> pm m k b e = b ^ e % m
  | 0, b, e, h => by
    have : e = 0 := by simp at h; exact h
    subst this
    simp [pm]
  | k + 1, b, e, h => by
    have h2 : e / 2 < 2 ^ k := by rw [Nat.pow_succ] at h; omega
    have ih := Afo m k (b * b % m) (e / 2) h2
    have e1 : (b * b % m) ^ (e / 2) % m = (b * b) ^ (e / 2) % m := (Nat.pow_mod (b * b) (e / 2) m).symm
    have e2 : (b * b) ^ (e / 2) = b ^ (2 * (e / 2)) := by rw [Nat.pow_mul, Nat.pow_succ, Nat.pow_one]
    rw [pm, ih, e1, e2]
    by_cases o : e % 2 = 1
    . rw [if_pos o]
      have e3 : b ^ e = b * b ^ (2 * (e / 2)) := by
        rw [<- Nat.pow_succ']
        congr 1
        omega
      rw [e3]
      rw [Nat.mul_mod b (b ^ (2 * (e / 2)) % m), Nat.mod_mod, <- Nat.mul_mod]
    . rw [if_neg o, Nat.mod_mod]
      congr 2
      omega
section
variable {d g : Nat}
def Lv (d g e : Nat) : Prop := ∃ k : Int, ((g ^ e : Nat) : Int) = 1 + d * k
theorem Lv.mul {a b : Nat} (ha : Lv d g a) (hb : Lv d g b) : Lv d g (a + b) := by
  obtain ⟨x, hx⟩ := ha
  obtain ⟨y, hy⟩ := hb
  refine ⟨x + y + d * x * y, ?_⟩
  rw [Nat.pow_add, Int.natCast_mul, hx, hy]
  grind
theorem Lv.many {a : Nat} (ha : Lv d g a) : ∀ n, Lv d g (n * a)
  | 0 => ⟨0, by simp⟩
  | n + 1 => by
    rw [Nat.add_mul, Nat.one_mul]
    exact (ha.many n).mul ha
theorem Lv.diff {a b : Nat} (ha : Lv d g a) (hb : Lv d g (a + b)) : Lv d g b := by
  obtain ⟨x, hx⟩ := ha
  obtain ⟨y, hy⟩ := hb
  refine ⟨y - x * (g ^ b : Nat), ?_⟩
  rw [Nat.pow_add, Int.natCast_mul, hx] at hy
  grind
theorem Lv.gcd {a : Nat} : ∀ {b : Nat}, Lv d g a -> Lv d g b -> Lv d g (Nat.gcd a b) := fun {b} => by
  induction a using Nat.strongRecOn generalizing b with
  | _ a ih =>
    intro ha hb
    by_cases z : a = 0
    . subst z; rw [Nat.gcd_zero_left]; exact hb
    . rw [Nat.gcd_rec]
      have h1 : Lv d g (b % a) := by
        have := Nat.div_add_mod b a
        rw [<- this] at hb
        refine Lv.diff (a := a * (b / a)) ?_ hb
        rw [Nat.mul_comm]
        exact ha.many _
      exact ih (b % a) (Nat.mod_lt _ (by omega)) h1 ha
end
theorem Adf {f : Nat} (h : ∀ r, r <= f -> r ∣ f -> r = 1 \/ r = f) (hf : 0 < f) {r : Nat} (h2 : 2 <= r) (hd : r ∣ f) : r = f := by
  rcases h r (Nat.le_of_dvd hf hd) hd with z | z
  . omega
  . exact z
def M61 : Nat := 2305843009213693951
set_option maxRecDepth 100000 in
theorem Afy {d : Nat} (h : d ∣ M61) (h1 : 1 < d) : d = M61 := by
  have dpos : 0 < d := by omega
  have full : Lv d 37 (M61 - 1) := by
    have e : pm M61 61 37 (M61 - 1) = 1 := by decide +kernel
    rw [Afo M61 61 37 (M61 - 1) (by decide)] at e
    obtain ⟨t, ht⟩ := h
    refine ⟨(t * (37 ^ (M61 - 1) / M61) : Nat), ?_⟩
    have q := Nat.div_add_mod (37 ^ (M61 - 1)) M61
    rw [e] at q
    have q2 : ((37 ^ (M61 - 1) : Nat) : Int) = ((M61 * (37 ^ (M61 - 1) / M61) + 1 : Nat) : Int) := by rw [q]
    rw [q2]
    generalize 37 ^ (M61 - 1) / M61 = z
    have ht' : ((M61 : Nat) : Int) = (d : Int) * t := by rw [<- Int.natCast_mul, <- ht]
    rw [Int.natCast_add, Int.natCast_mul, ht', Int.natCast_mul]
    grind
  have part : ∀ f : Nat, f ∣ M61 - 1 -> Nat.gcd (pm M61 61 37 ((M61 - 1) / f) + (M61 - 1)) M61 = 1 -> ¬ Lv d 37 ((M61 - 1) / f) := fun f hf hg hl => by
    have lt : (M61 - 1) / f < 2 ^ 61 := Nat.lt_of_le_of_lt (Nat.div_le_self _ _) (by decide)
    rw [Afo M61 61 37 _ lt] at hg
    obtain ⟨k, hk⟩ := hl
    have hd : d ∣ 37 ^ ((M61 - 1) / f) % M61 + (M61 - 1) := by
      obtain ⟨t, ht⟩ := h
      have q := Nat.div_add_mod (37 ^ ((M61 - 1) / f)) M61
      generalize 37 ^ ((M61 - 1) / f) = w at *
      have ht' : ((M61 : Nat) : Int) = (d : Int) * t := by rw [<- Int.natCast_mul, <- ht]
      have m1 : 1 <= M61 := by decide
      have : ((d : Nat) : Int) ∣ ((w % M61 + (M61 - 1) : Nat) : Int) := by
        refine ⟨k + t - t * ((w / M61 : Nat) : Int), ?_⟩
        have q2 : (w : Int) = (d : Int) * t * ((w / M61 : Nat) : Int) + ((w % M61 : Nat) : Int) := by
          rw [<- ht', <- Int.natCast_mul, <- Int.natCast_add, q]
        have q3 : ((w % M61 + (M61 - 1) : Nat) : Int) = ((w % M61 : Nat) : Int) + (M61 : Int) - 1 := by omega
        rw [q3, ht']
        grind
      exact Int.natCast_dvd_natCast.mp this
    have := Nat.dvd_gcd hd h
    rw [hg] at this
    have := Nat.le_of_dvd (by decide) this
    omega
  have inj : ∀ i j, i < j -> j < M61 - 1 -> 37 ^ i % d ≠ 37 ^ j % d := fun i j hij hj e => by
    have l1 : Lv d 37 (j - i) := by
      have l2 : Lv d 37 (M61 - 1 + (j - i)) := by
        obtain ⟨x, hx⟩ := full
        have q1 := Nat.div_add_mod (37 ^ i) d
        have q2 := Nat.div_add_mod (37 ^ j) d
        rw [e] at q1
        have dif : ((37 ^ j : Nat) : Int) = ((37 ^ i : Nat) : Int) + d * (((37 ^ j / d : Nat) : Int) - ((37 ^ i / d : Nat) : Int)) := by
          have a1 : ((37 ^ i : Nat) : Int) = d * ((37 ^ i / d : Nat) : Int) + ((37 ^ j % d : Nat) : Int) := by
            rw [<- Int.natCast_mul, <- Int.natCast_add, q1]
          have a2 : ((37 ^ j : Nat) : Int) = d * ((37 ^ j / d : Nat) : Int) + ((37 ^ j % d : Nat) : Int) := by
            rw [<- Int.natCast_mul, <- Int.natCast_add, q2]
          rw [a1, a2]
          grind
        have e1 : 37 ^ (M61 - 1 + (j - i)) = 37 ^ (M61 - 1 - i) * 37 ^ j := by
          rw [<- Nat.pow_add]
          congr 1
          omega
        have e2 : 37 ^ (M61 - 1) = 37 ^ (M61 - 1 - i) * 37 ^ i := by
          rw [<- Nat.pow_add]
          congr 1
          omega
        refine ⟨x + ((37 ^ (M61 - 1 - i) : Nat) : Int) * (((37 ^ j / d : Nat) : Int) - ((37 ^ i / d : Nat) : Int)), ?_⟩
        rw [e1, Int.natCast_mul, dif]
        rw [e2, Int.natCast_mul] at hx
        grind
      exact full.diff l2
    have l3 := Lv.gcd full l1
    have gd : Nat.gcd (M61 - 1) (j - i) ∣ M61 - 1 := Nat.gcd_dvd_left _ _
    have gle : Nat.gcd (M61 - 1) (j - i) <= j - i := Nat.le_of_dvd (by omega) (Nat.gcd_dvd_right _ _)
    obtain ⟨t, ht⟩ := gd
    generalize Nat.gcd (M61 - 1) (j - i) = e at *
    have t1 : t ≠ 1 := fun z => by rw [z] at ht; omega
    obtain ⟨r, r2, rd, rp⟩ := Xu t t1
    have rM : r ∣ M61 - 1 := by rw [ht]; exact Nat.dvd_trans rd (Nat.dvd_mul_left _ _)
    have l4 : Lv d 37 ((M61 - 1) / r) := by
      obtain ⟨s, hs⟩ := rd
      have : (M61 - 1) / r = s * e := by
        rw [ht, hs, show e * (r * s) = r * (s * e) by grind]
        exact Nat.mul_div_cancel_left _ (by omega)
      rw [this]
      exact l3.many s
    have fac : ((M61 - 1 : Nat) : Int) = 2 * (3 * (3 * (5 * (5 * (7 * (11 * (13 * (31 * (41 * (61 * (151 * (331 * 1321)))))))))))) := by decide
    have rM' : (r : Int) ∣ ((M61 - 1 : Nat) : Int) := Int.natCast_dvd_natCast.mpr rM
    rw [fac] at rM'
    have dn : ∀ {f : Nat}, (r : Int) ∣ (f : Nat) -> r ∣ f := fun h => Int.natCast_dvd_natCast.mp h
    have fin : ∀ {f : Nat}, (r : Int) ∣ (f : Nat) -> (∀ r, r <= f -> r ∣ f -> r = 1 \/ r = f) -> 0 < f -> f ∣ M61 - 1 -> Nat.gcd (pm M61 61 37 ((M61 - 1) / f) + (M61 - 1)) M61 = 1 -> False := fun hd hs hf hm hg => by
      have := Adf hs hf r2 (dn hd)
      subst this
      exact part _ hm hg l4
    rcases rp _ _ rM' with z | z
    . exact fin (f := 2) z (by decide) (by decide) (by decide) (by decide +kernel)
    rcases rp _ _ z with z | z
    . exact fin (f := 3) z (by decide) (by decide) (by decide) (by decide +kernel)
    rcases rp _ _ z with z | z
    . exact fin (f := 3) z (by decide) (by decide) (by decide) (by decide +kernel)
    rcases rp _ _ z with z | z
    . exact fin (f := 5) z (by decide) (by decide) (by decide) (by decide +kernel)
    rcases rp _ _ z with z | z
    . exact fin (f := 5) z (by decide) (by decide) (by decide) (by decide +kernel)
    rcases rp _ _ z with z | z
    . exact fin (f := 7) z (by decide) (by decide) (by decide) (by decide +kernel)
    rcases rp _ _ z with z | z
    . exact fin (f := 11) z (by decide) (by decide) (by decide) (by decide +kernel)
    rcases rp _ _ z with z | z
    . exact fin (f := 13) z (by decide) (by decide) (by decide) (by decide +kernel)
    rcases rp _ _ z with z | z
    . exact fin (f := 31) z (by decide) (by decide) (by decide) (by decide +kernel)
    rcases rp _ _ z with z | z
    . exact fin (f := 41) z (by decide) (by decide) (by decide) (by decide +kernel)
    rcases rp _ _ z with z | z
    . exact fin (f := 61) z (by decide) (by decide) (by decide) (by decide +kernel)
    rcases rp _ _ z with z | z
    . exact fin (f := 151) z (by decide) (by decide) (by decide) (by decide +kernel)
    rcases rp _ _ z with z | z
    . exact fin (f := 331) z (by decide +kernel) (by decide) (by decide) (by decide +kernel)
    . exact fin (f := 1321) z (by decide +kernel) (by decide) (by decide) (by decide +kernel)
  have big : M61 - 1 <= d := by
    refine Aba d (M61 - 1) (fun i => 37 ^ i % d) (fun i _ => Nat.mod_lt _ dpos) fun i j hi hj e => ?_
    rcases Nat.lt_trichotomy i j with z | z | z
    . exact absurd e (inj i j z hj)
    . exact z
    . exact absurd e.symm (inj j i z hi)
  obtain ⟨t, ht⟩ := h
  have t1 : t = 1 := by
    have : t < 2 := by
      refine Nat.lt_of_not_le fun z => ?_
      have := Nat.mul_le_mul big z
      rw [<- ht] at this
      exact absurd this (by decide)
    have : t ≠ 0 := fun z => by rw [z, Nat.mul_zero] at ht; exact absurd ht (by decide)
    omega
  rw [t1] at ht
  omega
theorem Afe {a : Int} (h : ¬ (2305843009213693951 : Int) ∣ a) : Int.gcd a 2305843009213693951 = 1 := by
  have h1 : Int.gcd a 2305843009213693951 ∣ M61 := by
    have := Int.gcd_dvd_right a 2305843009213693951
    exact Int.natCast_dvd_natCast.mp this
  by_cases z : Int.gcd a 2305843009213693951 = 1
  . exact z
  . exfalso
    have p : 0 < Int.gcd a 2305843009213693951 := Int.gcd_pos_of_ne_zero_right _ (by decide)
    have e := Afy h1 (by omega)
    have := Int.gcd_dvd_left a 2305843009213693951
    rw [e] at this
    exact h this
end Z
namespace Z
theorem Abv (c : Int) (j : Nat) (f : Nat -> Int) (i : Nat) : mu (List.replicate j 0 ++ [c]) f i = if j <= i then c * f (i - j) else 0 := by
  rw [Mj, Sd, List.length_replicate, Int.zero_add]
theorem Aeq {q : List Int} (tq : Tr q) (hq : q ≠ []) : ∀ (n : Nat) (p : List Int), p.length <= n -> ∃ (s : Int) (u r : List Int), s ≠ 0 /\ (∀ k, s * co p k = mu u (co q) k + co r k) /\ Tr r /\ r.length < q.length
  | 0, p, h => ⟨1, [], [], by decide, fun k => by rw [Bk (by omega), Ay]; rfl, .inl rfl, List.length_pos_iff.mpr hq⟩
  | n + 1, p, h => by
    have hl := List.length_pos_iff.mpr hq
    by_cases hp : p.length < q.length
    . exact ⟨1, [], trim p, by decide, fun k => by rw [Am, Int.one_mul]; show co p k = 0 + co p k; omega, Av _, Nat.lt_of_le_of_lt ((Av p).len fun i => Am p i) hp⟩
    . obtain ⟨l, hlq⟩ : ∃ l, l = co q (q.length - 1) := ⟨_, rfl⟩
      have l0 : l ≠ 0 := by rw [hlq]; exact tq.lead hq
      obtain ⟨c, hc⟩ : ∃ c, c = co p (p.length - 1) := ⟨_, rfl⟩
      obtain ⟨j, hj⟩ : ∃ j, j = p.length - q.length := ⟨_, rfl⟩
      have e1 : ∀ k, co (al (p.map (l * ·)) ((ml (List.replicate j 0 ++ [c]) q).map (-1 * ·))) k = l * co p k - (if j <= k then c * co q (k - j) else 0) := fun k => by
        rw [Rh, Bw, Bw, O7, Abv]
        omega
      obtain ⟨s, u, r, hs, he, tr, lr⟩ := Aeq tq hq n (trim (al (p.map (l * ·)) ((ml (List.replicate j 0 ++ [c]) q).map (-1 * ·)))) (by
        have h1 := (Av (al (p.map (l * ·)) ((ml (List.replicate j 0 ++ [c]) q).map (-1 * ·)))).len (q := (trim (al (p.map (l * ·)) ((ml (List.replicate j 0 ++ [c]) q).map (-1 * ·)))).take n) fun k => by
          rw [Ie]
          split
          . rfl
          . rw [Am, e1, if_pos (by omega)]
            by_cases hk : k = p.length - 1
            . rw [hk, <- hc, show p.length - 1 - j = q.length - 1 by omega, <- hlq]
              grind
            . rw [Bk (p := p) (by omega), Bk (p := q) (by omega)]
              simp
        rw [List.length_take] at h1
        omega)
      refine ⟨s * l, al u ((List.replicate j 0 ++ [c]).map (s * ·)), r, Int.mul_ne_zero hs l0, fun k => ?_, tr, lr⟩
      rw [Rm]
      dsimp only
      rw [Jp, Abv]
      have := he k
      rw [Am, e1] at this
      rw [Int.mul_assoc]
      have e2 : s * (l * co p k) = s * (l * co p k - (if j <= k then c * co q (k - j) else 0)) + s * (if j <= k then c * co q (k - j) else 0) := by rw [Int.mul_sub]; omega
      rw [e2, this]
      omega
theorem bez : ∀ (n : Nat) (t s : List Int), t.length <= n -> Tr t -> ∃ (g a b : List Int) (c : Int), c ≠ 0 /\ Dv g s /\ Dv g t /\ ∀ i, c * co g i = mu a (co s) i + mu b (co t) i
  | n, t, s, h, tt => by
    by_cases ht : t = []
    . subst ht
      refine ⟨s, [1], [], 1, by decide, Dv.refl _, Dv.nil _, fun i => ?_⟩
      show 1 * co s i = 1 * co s i + sh (mu [] (co s)) i + 0
      have : sh (mu [] (co s)) i = 0 := by cases i <;> rfl
      omega
    . match n with
      | 0 => exact absurd (List.eq_nil_of_length_eq_zero (by omega)) ht
      | n + 1 =>
        obtain ⟨k, u, r, hk, he, tr, lr⟩ := Aeq tt ht s.length s (Nat.le_refl _)
        obtain ⟨g, a, b, c, hc, h1, h2, h3⟩ := bez n r t (by omega) tr
        refine ⟨g, b.map (k * ·), al a ((ml b u).map (-1 * ·)), c, hc, Dv.comb h1 h2 hk (a := u) (b := [1]) fun i => ?_, h1, fun i => ?_⟩
        . rw [he]
          have : mu [1] (co r) i = co r i := by
            show 1 * co r i + sh (mu [] (co r)) i = _
            have : sh (mu [] (co r)) i = 0 := by cases i <;> rfl
            omega
          rw [this]
        . rw [h3, Jp, Rm]
          dsimp only
          rw [Jp, Jw]
          have e : mu b (co r) i = mu b (fun j => k * co s j - mu u (co t) j) i := En (fun j => by have := he j; omega) b i
          have e2 := congrFun (O4 b (fun j => k * co s j - mu u (co t) j) (mu u (co t))) i
          have e3 : (fun j => k * co s j - mu u (co t) j + mu u (co t) j) = fun j => k * co s j := by funext j; omega
          rw [e3] at e2
          have e4 : mu b (fun j => k * co s j) i = k * mu b (co s) i := congrFun (Io b k (co s)) i
          rw [e4] at e2
          rw [e]
          omega
theorem Gc.bez {p q g : List Int} (tq : Tr q) (h : Gc p q g) : ∃ (a b : List Int) (c : Int), c ≠ 0 /\ ∀ i, c * co g i = mu a (co p) i + mu b (co q) i := by
  obtain ⟨g', a, b, c, hc, h1, h2, h3⟩ := Z.bez q.length q p (Nat.le_refl _) tq
  obtain ⟨e, w, he, hw⟩ := h.all g' h1 h2
  refine ⟨ml w a, ml w b, c * e, Int.mul_ne_zero hc he, fun i => ?_⟩
  rw [Jw, Jw, Int.mul_assoc, hw]
  have e1 : mu w (fun k => c * co g' k) i = c * mu w (co g') i := congrFun (Io w c (co g')) i
  rw [<- e1, En h3 w i]
  exact congrFun (O4 w (mu a (co p)) (mu b (co q))) i
theorem Dv.times {d e : List Int} (h : Dv d e) (f : List Int) : Dv (tm f d) (tm f e) := by
  obtain ⟨c, u, hc, hu⟩ := h
  refine ⟨c, u, hc, fun i => ?_⟩
  rw [Bv]
  have e1 : mu u (co (tm f d)) i = mu u (mu f (co d)) i := En (fun k => Bv f d k) u i
  have e2 : mu u (mu f (co d)) i = mu f (mu u (co d)) i := by
    have a1 := congrFun (Jw (co d) u f) i
    have a2 := congrFun (Jw (co d) f u) i
    rw [<- a1, <- a2]
    refine congrFun (Bm (co d) _ _ fun k => ?_) i
    rw [O7, O7, Fe]
  rw [e1, e2, <- En hu f i]
  exact (congrFun (Io f c (co e)) i).symm
theorem Gc.times {s t g0 f : List Int} (tt : Tr t) (h : Gc s t g0) : Gc (tm f s) (tm f t) (pln (tm f g0)) := by
  have tr := Dj f g0
  have ⟨a, b⟩ := Oz tr
  obtain ⟨x, y, c, hc, hb⟩ := h.bez tt
  refine ⟨Mf tr, Nb tr, a.trans (h.one.times f), a.trans (h.two.times f), fun d h1 h2 => Dv.trans (Dv.comb h1 h2 hc (a := x) (b := y) fun i => ?_) b⟩
  rw [Bv]
  have sw : ∀ (u v : List Int), mu u (co (tm f v)) i = mu f (mu u (co v)) i := fun u v => by
    have e1 : mu u (co (tm f v)) i = mu u (mu f (co v)) i := En (fun k => Bv f v k) u i
    rw [e1]
    have a1 := congrFun (Jw (co v) u f) i
    have a2 := congrFun (Jw (co v) f u) i
    rw [<- a1, <- a2]
    refine congrFun (Bm (co v) _ _ fun k => ?_) i
    rw [O7, O7, Fe]
  rw [sw, sw]
  have e1 : mu f (fun k => c * co g0 k) i = c * mu f (co g0) i := congrFun (Io f c (co g0)) i
  rw [<- e1, En hb f i]
  exact congrFun (O4 f (mu x (co s)) (mu y (co t))) i
end Z
namespace Z
def Dm (t : Int) (d f : List Int) : Prop := ∃ u : List Int, ∀ i, t ∣ co f i - mu u (co d) i
theorem Afg (p : List Int) (f g : Nat -> Int) (i : Nat) : mu p f i - mu p g i = mu p (fun k => f k - g k) i := by
  have h1 := congrFun (O4 p (fun k => f k - g k) g) i
  have h2 : (fun k => f k - g k + g k) = f := by funext k; omega
  rw [h2] at h1
  omega
theorem W5 {t : Int} {f g : Nat -> Int} (h : ∀ i, t ∣ f i - g i) (p : List Int) (i : Nat) : t ∣ mu p f i - mu p g i := by
  rw [Afg]
  exact Z4 t p _ i fun j _ => h j
theorem Xk {t a b c : Int} (h1 : t ∣ a - b) (h2 : t ∣ b - c) : t ∣ a - c := by
  have := Int.dvd_add h1 h2
  rw [show a - b + (b - c) = a - c by omega] at this
  exact this
theorem Tw {t a b : Int} (h : t ∣ a - b) : t ∣ b - a := by
  have := (Int.dvd_neg (a := t) (b := a - b)).mpr h
  rw [show -(a - b) = b - a by omega] at this
  exact this
theorem Dm.refl (t : Int) (d : List Int) : Dm t d d := ⟨[1], fun i => by
  have : mu [1] (co d) i = co d i := by
    show 1 * co d i + sh (mu [] (co d)) i = _
    have : sh (mu [] (co d)) i = 0 := by cases i <;> rfl
    omega
  rw [this, Int.sub_self]
  exact Int.dvd_zero _⟩
theorem Dm.nil (t : Int) (d : List Int) : Dm t d [] := ⟨[], fun i => by
  rw [Ay]
  exact ⟨0, by simp [mu]⟩⟩
theorem Dm.comb {t : Int} {d f g h : List Int} (hf : Dm t d f) (hg : Dm t d g) {a b : List Int} (e : ∀ i, t ∣ co h i - (mu a (co f) i + mu b (co g) i)) : Dm t d h := by
  obtain ⟨u, hu⟩ := hf
  obtain ⟨v, hv⟩ := hg
  refine ⟨al (ml a u) (ml b v), fun i => ?_⟩
  rw [Rm]
  dsimp only
  rw [Jw, Jw]
  have h1 := W5 hu a i
  have h2 := W5 hv b i
  have h3 := Int.dvd_add h1 h2
  refine Xk (e i) ?_
  rw [show mu a (co f) i + mu b (co g) i - (mu a (mu u (co d)) i + mu b (mu v (co d)) i) = mu a (co f) i - mu a (mu u (co d)) i + (mu b (co g) i - mu b (mu v (co d)) i) by omega]
  exact h3
theorem Ajv (k : Int) (f : Nat -> Int) (i : Nat) : mu [k] f i = k * f i := by
  show k * f i + sh (mu [] f) i = _
  have : sh (mu [] f) i = 0 := by cases i <;> rfl
  omega
theorem Dm.by {t : Int} {d f g : List Int} (h : Dm t d f) {k : Int} (e : ∀ i, t ∣ co g i - k * co f i) : Dm t d g :=
  Dm.comb h (Dm.nil t d) (a := [k]) (b := []) fun i => by
    rw [Ajv]
    have : mu [] (co []) i = 0 := rfl
    rw [this, Int.add_zero]
    exact e i
theorem Dm.congr {t : Int} {d f g : List Int} (h : Dm t d f) (e : ∀ i, t ∣ co g i - co f i) : Dm t d g := h.by (k := 1) fun i => by rw [Int.one_mul]; exact e i
theorem Dm.trans {t : Int} {d f g : List Int} (h1 : Dm t d f) (h2 : Dm t f g) : Dm t d g := by
  obtain ⟨v, hv⟩ := h2
  exact Dm.comb h1 (Dm.nil t d) (a := v) (b := []) fun i => by
    have : mu [] (co []) i = 0 := rfl
    rw [this, Int.add_zero]
    exact hv i
def Agm (t : Int) (f g p q : List Int) : Prop := ∀ d, (Dm t d f /\ Dm t d g) ↔ (Dm t d p /\ Dm t d q)
theorem X8 {t : Int} {f g r u : List Int} (e : ∀ i, t ∣ co f i - (mu u (co g) i + co r i)) : Agm t g r f g := fun d => by
  constructor
  . rintro ⟨a, b⟩
    refine ⟨Dm.comb a b (a := u) (b := [1]) fun i => ?_, a⟩
    rw [Ajv, Int.one_mul]
    exact e i
  . rintro ⟨a, b⟩
    refine ⟨b, Dm.comb a b (a := [1]) (b := u.map (-1 * ·)) fun i => ?_⟩
    rw [Ajv]
    have : mu (u.map (-1 * ·)) (co g) i = -1 * mu u (co g) i := congrFun (Ed (co g) (-1) u) i
    rw [this]
    have h := Tw (e i)
    rw [show co r i - (1 * co f i + -1 * mu u (co g) i) = mu u (co g) i + co r i - co f i by omega]
    exact h
def Pr (t : Int) : Prop := 1 < t /\ ∀ a : Int, ¬ t ∣ a -> Int.gcd a t = 1
theorem Pr.or {t : Int} (h : Pr t) {a b : Int} (d : t ∣ a * b) : t ∣ a \/ t ∣ b := by
  by_cases ha : t ∣ a
  . exact .inl ha
  . have c : Nat.Coprime t.natAbs a.natAbs := by
      have := h.2 a ha
      rw [Int.gcd_comm] at this
      exact this
    have d2 : t.natAbs ∣ a.natAbs * b.natAbs := by
      rw [<- Int.natAbs_mul]
      exact Int.natAbs_dvd_natAbs.mpr d
    exact .inr (Int.natAbs_dvd_natAbs.mp (c.dvd_of_dvd_mul_left d2))
theorem Ke {e p : List Int} (te : Tr e) (ne : e ≠ []) (pe : Prim e) (h : Dv e p) : Exact p e := by
  obtain ⟨c, u, hc, hu⟩ := h
  have key : ∀ k, c ∣ co u k := by
    by_cases hz : ∀ k, co u k = 0
    . intro k; rw [hz k]; exact Int.dvd_zero _
    . have tn : trim u ≠ [] := fun z => hz fun k => by rw [<- Am, z, Ay]
      have tu := Av u
      have pp := Jg tu tn
      have up := Ma tu tn
      have pr : Prim (tm (pln (trim u)) e) := Aka pp pe fun k => Bv _ _ k
      have d1 : ∀ k, c ∣ un (trim u) * co (tm (pln (trim u)) e) k := fun k => by
        refine ⟨co p k, ?_⟩
        rw [hu, Bv]
        have e1 : mu u (co e) k = mu (trim u) (co e) k := (congrFun (Bm (co e) _ _ (Am u)) k).symm
        have e2 : mu ((pln (trim u)).map (un (trim u) * ·)) (co e) k = un (trim u) * mu (pln (trim u)) (co e) k := congrFun (Ed (co e) (un (trim u)) _) k
        rw [e1, <- e2]
        refine congrFun (Bm (co e) _ _ fun i => ?_) k
        rw [Bw, up]
      have d2 := Nj d1
      rw [pr.gl] at d2
      intro k
      rw [<- Am, <- up k]
      have : c ∣ un (trim u) := by simpa using d2
      exact Int.dvd_trans this (Int.dvd_mul_right _ _)
  refine ⟨u.map (· / c), fun k => ?_⟩
  have e1 : mu ((u.map (· / c)).map (c * ·)) (co e) k = c * mu (u.map (· / c)) (co e) k := congrFun (Ed (co e) c _) k
  have e2 : mu ((u.map (· / c)).map (c * ·)) (co e) k = mu u (co e) k := congrFun (Bm (co e) _ _ fun i => by
    rw [Bw, Qg (f := (· / c)) (Int.zero_ediv c)]
    exact Int.mul_ediv_cancel' (key i)) k
  rw [e1, <- hu] at e2
  exact (Int.eq_of_mul_eq_mul_left hc e2).symm
theorem apart {t : Int} (ht : Pr t) {p q : List Int} (tp : Tr p) (np : p ≠ []) (hl : ¬ t ∣ co p (p.length - 1)) (h : ∀ d, Dm t d p -> Dm t d q -> Dm t d [1]) : Gc p q [1] := by
  have t1 : Tr [1] := .inr ⟨by simp, by decide⟩
  have p1 : pln [1] = [1] := by decide
  refine ⟨t1, p1, Jm 1 (by decide) p, Jm 1 (by decide) q, fun d dp dq => ?_⟩
  have dt : Dv (trim d) d /\ Dv d (trim d) := ⟨(Dv.refl (trim d)).congr fun i => Am d i, (Dv.refl d).congr fun i => (Am d i).symm⟩
  have td := Av d
  have nd : trim d ≠ [] := fun z => by
    have := dt.1.trans dp
    rw [z] at this
    exact np (this.zero tp)
  have ⟨pa, pb⟩ := Oz td
  have te := Mf td
  have ne : pln (trim d) ≠ [] := fun z => by
    have := Nx (trim d)
    rw [z, List.length_nil] at this
    exact nd (List.eq_nil_of_length_eq_zero this.symm)
  have pe := Jg td nd
  have de : Dv d (pln (trim d)) := dt.2.trans pb
  have ed : Dv (pln (trim d)) d := pa.trans dt.1
  obtain ⟨w, hw⟩ := Ke te ne pe (ed.trans dp)
  obtain ⟨w', hw'⟩ := Ke te ne pe (ed.trans dq)
  generalize pln (trim d) = e at *
  have m1 : Dm t e p := ⟨w, fun i => by rw [hw, Int.sub_self]; exact Int.dvd_zero _⟩
  have m2 : Dm t e q := ⟨w', fun i => by rw [hw', Int.sub_self]; exact Int.dvd_zero _⟩
  obtain ⟨u, hu⟩ := h e m1 m2
  have le : ¬ t ∣ co e (e.length - 1) := fun z => hl (by
    have wn : trim w ≠ [] := fun y => by
      have := tp.lead np
      rw [hw, <- congrFun (Bm (co e) _ _ (Am w)) _, y] at this
      exact this rfl
    have e1 : p = tm (trim w) e := tp.ext (Dj _ _) fun i => by rw [hw, Bv, congrFun (Bm (co e) _ _ (Am w)) i]
    have l1 := Ng (Av w) te wn ne
    have lw := List.length_pos_iff.mpr wn
    have lee := List.length_pos_iff.mpr ne
    rw [hw, <- congrFun (Bm (co e) _ _ (Am w)) _, Jb (trim w) e (p.length - 1) wn ne (by rw [e1]; omega)]
    exact Int.dvd_trans z (Int.dvd_mul_left _ _))
  have l1 : e.length = 1 := by
    have lee := List.length_pos_iff.mpr ne
    by_cases z : e.length = 1
    . exact z
    . exfalso
      have cu : ∀ i, t ∣ co (u.map (· % t)) i - co u i := fun i => by
        rw [Qg (f := (· % t)) (Int.zero_emod t)]
        refine ⟨-(co u i / t), ?_⟩
        have := Int.mul_ediv_add_emod (co u i) t
        rw [Int.mul_neg]
        omega
      have hu2 : ∀ i, t ∣ co [1] i - mu (trim (u.map (· % t))) (co e) i := fun i => by
        refine Xk (hu i) ?_
        rw [congrFun (Bm (co e) _ _ (Am (u.map (· % t)))) i, Fe u e, Fe (u.map (· % t)) e]
        exact W5 (fun k => Tw (cu k)) e i
      by_cases un : trim (u.map (· % t)) = []
      . have := hu2 0
        rw [un] at this
        have h1 : t ∣ 1 := by simpa [mu, Bu] using this
        have := Int.le_of_dvd (by decide) h1
        have := ht.1
        omega
      . have lu := List.length_pos_iff.mpr un
        have := hu2 ((trim (u.map (· % t))).length + e.length - 2)
        rw [Jb _ e _ un ne (by omega), Bk (p := [1]) (by show 1 <= _; omega), Int.zero_sub] at this
        rcases ht.or ((Int.dvd_neg).mp this) with z1 | z1
        . have ld := (Av (u.map (· % t))).lead un
          rw [Am, Qg (f := (· % t)) (Int.zero_emod t)] at ld z1
          have r0 := Int.emod_nonneg (co u ((trim (u.map (· % t))).length - 1)) (show t ≠ 0 by have := ht.1; omega)
          have r1 := Int.emod_lt_of_pos (co u ((trim (u.map (· % t))).length - 1)) (show 0 < t by have := ht.1; omega)
          have := Int.le_of_dvd (by omega) z1
          omega
        . exact le z1
  match e, l1 with
  | [k], _ =>
    have k0 : k ≠ 0 := by
      have := te.lead ne
      exact this
    exact de.trans (Jm k k0 [1])
theorem Ae1 : Pr 2305843009213693951 := ⟨by decide, fun _ h => Afe h⟩
end Z
namespace Z
structure MV (m : Int) (p q qs rs : List Int) (j : Nat) : Prop where
  eq : ∀ k, m ∣ co p k - (mu qs (co q) k + co rs k)
  top : ∀ k, j + q.length <= k + 1 -> co rs k = 0
  low : ∀ k, k < j -> co qs k = 0
  rq : ∀ k, 0 <= co qs k /\ co qs k < m
  rr : ∀ k, 0 <= co rs k /\ co rs k < m
theorem V8 (n k : Nat) : co (List.replicate n (0 : Int)) k = 0 := by
  unfold co
  rw [List.getD_eq_getElem?_getD, List.getElem?_replicate]
  split <;> rfl
theorem MV.start {m : Int} (hm : 0 < m) {p q rs : List Int} (hq : q ≠ []) (h : ∀ k, m ∣ co p k - co rs k) (hr : ∀ k, 0 <= co rs k /\ co rs k < m) : MV m p q (List.replicate (rs.length + 1 - q.length) 0) rs (rs.length + 1 - q.length) := by
  have hl : 0 < q.length := List.length_pos_iff.mpr hq
  refine ⟨fun k => by rw [Sd, Int.zero_add]; exact h k, fun k h => Bk (by omega), fun k h => V8 _ _, fun k => ?_, hr⟩
  rw [V8]
  omega
theorem MV.step {m : Int} (hm : 0 < m) {p q qs rs : List Int} {j : Nat} (h : MV m p q qs rs (j + 1)) (hq : q ≠ []) {f : Int} (hj : j < qs.length) (f0 : 0 <= f) (f1 : f < m) (ef : m ∣ co rs (j + (q.length - 1)) - f * co q (q.length - 1))
    {rs' : List Int} (hr : ∀ k, co rs' k = (co rs k - (if j <= k then f * co q (k - j) else 0)) % m) : MV m p q (qs.set j f) rs' j := by
  have hl : 0 < q.length := List.length_pos_iff.mpr hq
  have cq : ∀ k, co (qs.set j f) k = if k = j then f else co qs k := fun k => Qe _ _ _ hj k
  have sp : ∀ k, co (qs.set j f) k = co (al qs (List.replicate j 0 ++ [f])) k := fun k => by
    rw [cq, Rh, Hy, List.length_replicate]
    by_cases hk : k = j
    . rw [if_pos hk, if_pos hk, hk, h.low j (by omega)]; simp
    . rw [if_neg hk, if_neg hk, V8, Int.add_zero]
  have md : ∀ x : Int, m ∣ x % m - x := fun x => ⟨-(x / m), by
    have := Int.mul_ediv_add_emod x m
    rw [Int.mul_neg]
    omega⟩
  refine ⟨fun k => ?_, fun k hk => ?_, fun k hk => ?_, fun k => ?_, fun k => ?_⟩
  . rw [Bm (co q) _ _ sp, Rm]
    dsimp only
    rw [Mj, Sd, List.length_replicate, hr]
    have h1 := h.eq k
    have h2 := md (co rs k - (if j <= k then f * co q (k - j) else 0))
    have h3 := Int.dvd_sub h1 h2
    generalize (co rs k - (if j <= k then f * co q (k - j) else 0)) % m = y at *
    generalize (if j <= k then f * co q (k - j) else 0) = x at *
    have e : co p k - (mu qs (co q) k + co rs k) - (y - (co rs k - x)) = co p k - (mu qs (co q) k + (0 + x) + y) := by omega
    rw [e] at h3
    exact h3
  . rw [hr, if_pos (by omega)]
    by_cases hk2 : k = j + (q.length - 1)
    . subst hk2
      rw [show j + (q.length - 1) - j = q.length - 1 by omega]
      exact Int.emod_eq_zero_of_dvd ef
    . rw [h.top k (by omega), Bk (show q.length <= k - j by omega)]
      simp
  . rw [cq, if_neg (by omega), h.low k (by omega)]
  . rw [cq]
    split
    . exact ⟨f0, f1⟩
    . exact h.rq k
  . rw [hr]
    exact ⟨Int.emod_nonneg _ (by omega), Int.emod_lt_of_pos _ hm⟩
theorem Ac8 {m r iv l : Int} (h : iv * l % m = 1) (hm : 1 < m) : m ∣ r - (r * iv % m) * l := by
  have e1 := Int.mul_ediv_add_emod (r * iv) m
  have e2 := Int.mul_ediv_add_emod (iv * l) m
  rw [h] at e2
  refine ⟨(r * iv / m) * l - r * (iv * l / m), ?_⟩
  have e3 : r * iv % m = r * iv - m * (r * iv / m) := by omega
  rw [e3]
  have e4 : r * iv * l = r * (m * (iv * l / m) + 1) := by rw [e2, Int.mul_assoc]
  have : (r * iv - m * (r * iv / m)) * l = r * iv * l - m * (r * iv / m) * l := by grind
  rw [this, e4]
  grind
end Z
namespace Z
def hv : List Int -> Int -> Int -> Int
  | [], _, _ => 0
  | w :: r, t, b => hv r t b * t + w * b ^ r.length
end Z
namespace Z
def ei : List Int -> Int -> Int
  | [], _ => 0
  | a :: r, x => a + x * ei r x
theorem Wt (x : Int) : ∀ r : List Int, (∀ i, co r i = 0) -> ei r x = 0
  | [], _ => rfl
  | a :: r, h => by
    have ha : a = 0 := by have := h 0; rwa [Bu] at this
    rw [ei, Wt x r fun i => by have := h (i + 1); rwa [Bx] at this, ha]
    simp
theorem Xw (x : Int) : ∀ r s : List Int, (∀ i, co r i = co s i) -> ei r x = ei s x
  | [], s, h => by rw [Wt x s fun i => by rw [<- h, Ay]]; rfl
  | a :: r, [], h => by rw [Wt x (a :: r) fun i => by rw [h, Ay]]; rfl
  | a :: r, b :: s, h => by
    have e : a = b := by have := h 0; rwa [Bu, Bu] at this
    rw [ei, ei, e, Xw x r s fun i => by have := h (i + 1); rwa [Bx, Bx] at this]
theorem Aiw (x : Int) : ∀ p q : List Int, ei (al p q) x = ei p x + ei q x
  | [], q => by simp [al, ei]
  | a :: p, [] => by simp [al, ei]
  | a :: p, b :: q => by
    rw [al, ei, ei, ei, Aiw x p q]
    grind
theorem Xb (x a : Int) : ∀ q : List Int, ei (q.map (a * ·)) x = a * ei q x
  | [] => by simp [ei]
  | b :: q => by
    rw [List.map_cons, ei, ei, Xb x a q]
    grind
theorem Aij (x : Int) : ∀ p q : List Int, ei (ml p q) x = ei p x * ei q x
  | [], q => by simp [ml, ei]
  | a :: p, q => by
    rw [ml, Aiw, Xb, ei, ei, Aij x p q]
    grind
theorem Aj2 {p u q : List Int} (h : ∀ i, co p i = mu u (co q) i) (x : Int) : ei p x = ei u x * ei q x := by
  rw [<- Aij]
  exact Xw x _ _ fun i => by rw [h, O7]
def sd (c : Int) : List Int -> List Int
  | [] => []
  | [_] => []
  | _ :: b :: r => ei (b :: r) c :: sd c (b :: r)
theorem Ae0 (c : Int) : ∀ p : List Int, (sd c p).length = p.length - 1
  | [] => rfl
  | [_] => rfl
  | _ :: b :: r => by
    rw [sd, List.length_cons, Ae0 c (b :: r)]
    simp
theorem Aiq (c x : Int) : ∀ p : List Int, ei p x = ei p c + (x - c) * ei (sd c p) x
  | [] => by simp [ei, sd]
  | [a] => by simp [ei, sd]
  | a :: b :: r => by
    have ih := Aiq c x (b :: r)
    show a + x * ei (b :: r) x = (a + c * ei (b :: r) c) + (x - c) * (ei (b :: r) c + x * ei (sd c (b :: r)) x)
    rw [ih]
    generalize ei (b :: r) c = A
    generalize ei (sd c (b :: r)) x = B
    grind
theorem Ahj (c : Int) : ∀ (p : List Int), co p 0 = ei p c - c * co (sd c p) 0 /\ ∀ i, co p (i + 1) = co (sd c p) i - c * co (sd c p) (i + 1)
  | [] => ⟨by simp [sd, ei, Ay], fun i => by simp [sd, Ay]⟩
  | [a] => ⟨by simp [sd, ei, Ay, Bu], fun i => by simp [sd, Ay, Bx]⟩
  | a :: b :: r => by
    obtain ⟨h0, h1⟩ := Ahj c (b :: r)
    rw [sd]
    refine ⟨by rw [Bu, Bu, ei]; omega, fun i => ?_⟩
    rw [Bx, Bx]
    cases i with
    | zero => exact h0
    | succ i => exact h1 i
theorem interp (M : Nat) : ∀ (xs T : List Int) (V : Nat), T.length <= xs.length -> xs.Nodup -> (∀ x ∈ xs, x.natAbs <= M) -> (∀ x ∈ xs, (ei T x).natAbs <= V) -> ∀ i, (co T i).natAbs <= V * (2 * M + 3) ^ xs.length
  | [], T, V, hl, _, _, _, i => by
    have : T = [] := List.eq_nil_of_length_eq_zero (by simpa using hl)
    rw [this, Ay]
    exact Nat.zero_le _
  | c :: xs, T, V, hl, hn, hM, hV, i => by
    rw [List.nodup_cons] at hn
    have hc := hM c (by simp)
    have hvc := hV c (by simp)
    have ih := interp M xs (sd c T) (2 * V) (by rw [Ae0]; rw [List.length_cons] at hl; omega) hn.2 (fun x hx => hM x (by simp [hx])) fun x hx => by
      have e := Aiq c x T
      have hne : x - c ≠ 0 := fun z => hn.1 (by
        have : x = c := by omega
        rw [<- this]
        exact hx)
      have hx1 := hV x (by simp [hx])
      have e2 : ((x - c) * ei (sd c T) x).natAbs <= 2 * V := by
        have : (x - c) * ei (sd c T) x = ei T x - ei T c := by omega
        rw [this]
        omega
      rw [Int.natAbs_mul] at e2
      exact Nat.le_trans (Nat.le_mul_of_pos_left _ (Int.natAbs_pos.mpr hne)) e2
    obtain ⟨h0, h1⟩ := Ahj c T
    rw [List.length_cons, Nat.pow_succ, <- Nat.mul_assoc]
    generalize hB : (2 * M + 3) ^ xs.length = B at ih ⊢
    have hB1 : 1 <= B := by rw [<- hB]; exact Nat.pow_pos (by omega)
    have cm : ∀ j, (c * co (sd c T) j).natAbs <= M * (2 * V * B) := fun j => by
      rw [Int.natAbs_mul]
      exact Nat.mul_le_mul hc (ih j)
    have fin : V + M * (2 * V * B) + 2 * V * B <= V * B * (2 * M + 3) := by
      have a1 : V <= V * B := Nat.le_mul_of_pos_right _ hB1
      have a2 : M * (2 * V * B) = 2 * (M * (V * B)) := by grind
      have a3 : V * B * (2 * M + 3) = 2 * (M * (V * B)) + 3 * (V * B) := by grind
      have a4 : 2 * V * B = 2 * (V * B) := by grind
      omega
    cases i with
    | zero =>
      rw [h0]
      have := cm 0
      omega
    | succ i =>
      rw [h1 i]
      have := cm (i + 1)
      have := ih i
      omega
theorem Adn {p : List Int} {xs : List Int} (hn : xs.Nodup) (h : ∀ x ∈ xs, ei p x = 0) (hl : p.length <= xs.length) (i : Nat) : co p i = 0 := by
  have := interp (xs.foldr (fun x m => max x.natAbs m) 0) xs p 0 hl hn (fun x hx => by
    clear hn h hl
    induction xs with
    | nil => simp at hx
    | cons y ys ih =>
      rw [List.foldr_cons]
      rcases List.mem_cons.mp hx with rfl | hx
      . exact Nat.le_max_left _ _
      . exact Nat.le_trans (ih hx) (Nat.le_max_right _ _)) (fun x hx => by rw [h x hx]; simp) i
  rw [Nat.zero_mul] at this
  omega
theorem Ah5 {p : List Int} {n M : Nat} {x : Int} (hx : x.natAbs <= M) (hM : 1 <= M) : (∀ i, (co p i).natAbs <= 2 ^ n) -> (ei p x).natAbs <= p.length * (2 ^ n * M ^ p.length) := by
  induction p with
  | nil => intro _; simp [ei]
  | cons a r ih =>
    intro h
    have ha := h 0
    rw [Bu] at ha
    have hr := ih fun i => by have := h (i + 1); rwa [Bx] at this
    rw [ei, List.length_cons, Nat.pow_succ]
    generalize hA : 2 ^ n = A at *
    generalize hB : M ^ r.length = B at *
    have hB1 : 1 <= B := by rw [<- hB]; exact Nat.pow_pos hM
    have h1 : (a + x * ei r x).natAbs <= A + M * (r.length * (A * B)) := by
      have : (x * ei r x).natAbs <= M * (r.length * (A * B)) := by
        rw [Int.natAbs_mul]
        exact Nat.mul_le_mul hx hr
      have := Int.natAbs_add_le a (x * ei r x)
      omega
    have e : (r.length + 1) * (A * (B * M)) = M * (r.length * (A * B)) + A * (B * M) := by grind
    have : A * 1 <= A * (B * M) := Nat.mul_le_mul_left _ (Nat.mul_pos hB1 hM)
    omega
theorem Zi (f : Int -> Bool) : ∀ R : List Int, (R.filter f).length + (R.filter fun x => !f x).length = R.length
  | [] => rfl
  | a :: r => by
    have := Zi f r
    cases h : f a <;> simp [List.filter_cons, h] <;> omega
theorem Ae5 {p T S : List Int} {n : Nat} (h : ∀ i, co p i = mu S (co T) i) (np : ∃ i, co p i ≠ 0) (hp : ∀ i, (co p i).natAbs <= 2 ^ n) (lp : p.length <= 8) (lT : T.length <= p.length) (i : Nat) : (co T i).natAbs <= 2 ^ (n + 80) := by
  let R : List Int := (List.range 16).map fun (k : Nat) => ((k : Nat) : Int)
  have hR : R.Nodup := by decide
  have hRM : ∀ x ∈ R, x.natAbs <= 15 := by decide
  let good := R.filter fun x => decide (ei p x ≠ 0)
  let bad := R.filter fun x => !decide (ei p x ≠ 0)
  have lens : good.length + bad.length = 16 := by
    have e : R.length = 16 := by decide
    rw [<- e]
    exact Zi _ R
  have hbad : bad.length < p.length := by
    refine Nat.lt_of_not_le fun z => ?_
    obtain ⟨j, hj⟩ := np
    refine hj (Adn (xs := bad) (hR.filter _) (fun x hx => ?_) z j)
    have := (List.mem_filter.mp hx).2
    simpa using this
  have hV : ∀ x ∈ good, (ei T x).natAbs <= 8 * (2 ^ n * 15 ^ 8) := fun x hx => by
    have hxR := (List.mem_filter.mp hx).1
    have h0 : ei p x ≠ 0 := by simpa using (List.mem_filter.mp hx).2
    have e := Aj2 h x
    have e1 := congrArg Int.natAbs e
    rw [Int.natAbs_mul] at e1
    have s0 : ei S x ≠ 0 := fun z => h0 (by rw [e, z, Int.zero_mul])
    have h1 : (ei T x).natAbs <= (ei p x).natAbs := by
      rw [e1]
      exact Nat.le_mul_of_pos_left _ (Int.natAbs_pos.mpr s0)
    refine Nat.le_trans h1 (Nat.le_trans (Ah5 (hRM x hxR) (by decide) hp) ?_)
    exact Nat.mul_le_mul lp (Nat.mul_le_mul_left _ (Nat.pow_le_pow_right (by decide) lp))
  have key := interp 15 (good.take 8) T _ (by rw [List.length_take]; omega) (hR.filter _ |>.sublist (List.take_sublist _ _)) (fun x hx => hRM x (List.mem_filter.mp (List.mem_of_mem_take hx)).1) (fun x hx => hV x (List.mem_of_mem_take hx)) i
  refine Nat.le_trans key ?_
  have l8 : (good.take 8).length <= 8 := by rw [List.length_take]; omega
  have e33 : (2 * 15 + 3) ^ (good.take 8).length <= 33 ^ 8 := Nat.pow_le_pow_right (by decide) l8
  refine Nat.le_trans (Nat.mul_le_mul_left _ e33) ?_
  have : 8 * (2 ^ n * 15 ^ 8) * 33 ^ 8 = 2 ^ n * (8 * 15 ^ 8 * 33 ^ 8) := by grind
  rw [this, Nat.pow_add]
  exact Nat.mul_le_mul_left _ (by decide)
end Z
namespace Z
structure QF (p q T B : List Int) : Prop where
  tT : Tr T
  tB : Tr B
  nB : B ≠ []
  pos : 0 < co B (B.length - 1)
  gl1 : gl (T ++ B) = 1
  cop : ∀ d, Tr d -> Dv d T -> Dv d B -> d.length <= 1
  eq : tm T q = tm B p
theorem Oj {d f : List Int} (h : Dv d f) : Dv (trim d) f := h.of_scale (a := 1) (b := 1) (by decide) fun i => by rw [Am]
theorem Ad5 {T B C : List Int} (tB : Tr B) (nB : B ≠ []) (cop : ∀ d, Tr d -> Dv d T -> Dv d B -> d.length <= 1) (h : Dv B (tm T C)) : Dv B C := by
  obtain ⟨g, a, b, c, hc, gT, gB, e⟩ := bez B.length B T (Nat.le_refl _) tB
  have l1 := cop (trim g) (Av g) (Oj gT) (Oj gB)
  have n0 : trim g ≠ [] := ((Oj gB).len (Av g) tB nB).1
  obtain ⟨k, hk⟩ : ∃ k, trim g = [k] := by
    cases hg : trim g with
    | nil => exact absurd hg n0
    | cons k r =>
      rw [hg] at l1
      have : r = [] := List.eq_nil_of_length_eq_zero (by simpa using l1)
      exact ⟨k, by rw [this]⟩
  have k0 : k ≠ 0 := by
    have := (Av g).lead n0
    rw [hk] at this
    simpa [Bu] using this
  have cg : ∀ i, co g i = co [k] i := fun i => by rw [<- hk, Am]
  have hB : Dv B (tm B C) := by
    rw [Bq]
    exact (Dv.refl B).mul_left C
  refine h.comb hB (k := c * k) (Int.mul_ne_zero hc k0) (a := a) (b := b) fun i => ?_
  have e2 : mu C (fun j => c * co g j) i = mu C (fun j => mu a (co T) j + mu b (co B) j) i := En (fun j => e j) C i
  have e3 : mu C (fun j => mu a (co T) j + mu b (co B) j) i = mu a (co (tm T C)) i + mu b (co (tm B C)) i := by
    rw [congrFun (O4 C (mu a (co T)) (mu b (co B))) i]
    have f : ∀ (x y : List Int), mu C (mu x (co y)) i = mu x (co (tm y C)) i := fun x y => by
      rw [En (f := co (tm y C)) (g := mu C (co y)) (fun j => by rw [Bq, Bv]) x i]
      have e1 := congrFun (Jw (co y) C x) i
      have e2 := congrFun (Jw (co y) x C) i
      rw [<- e1, <- e2]
      exact congrFun (Bm (co y) _ _ fun j => by rw [O7, O7, Fe]) i
    rw [f, f]
  rw [<- e3, <- e2]
  have e4 : mu C (fun j => c * co g j) i = mu C (co [c * k]) i := En (fun j => by
    rw [cg]
    cases j with
    | zero => simp [Bu]
    | succ j => simp [Bx, Ay]) C i
  rw [e4, Fe]
  show _ = c * k * co C i + sh (mu [] (co C)) i
  cases i <;> simp [sh, mu]
theorem Aix {q : List Int} (hq : q ≠ []) (hl : co q (q.length - 1) ≠ 0) {u v : List Int} (h : ∀ k, mu u (co q) k = mu v (co q) k) : ∀ k, co u k = co v k := by
  have d : ∀ k, mu (al u (v.map (-1 * ·))) (co q) k = 0 := fun k => by
    rw [Rm]
    dsimp only
    rw [Ed]
    dsimp only
    rw [h]
    omega
  have x0 : trim (al u (v.map (-1 * ·))) = [] := by
    by_cases n : trim (al u (v.map (-1 * ·))) = []
    . exact n
    . exfalso
      have e2 := congrFun (Bm (co q) _ _ (Am (al u (v.map (-1 * ·))))) ((trim (al u (v.map (-1 * ·)))).length + q.length - 2)
      have lw : 0 < (trim (al u (v.map (-1 * ·)))).length := List.length_pos_iff.mpr n
      have lq : 0 < q.length := List.length_pos_iff.mpr hq
      rw [d, Jb _ q _ n hq (by omega)] at e2
      rcases Int.mul_eq_zero.mp e2 with z | z
      . exact (Av _).lead n z
      . exact hl z
  intro k
  have := Am (al u (v.map (-1 * ·))) k
  rw [x0, Ay, Rh, Bw] at this
  omega
theorem Uo {a b c : List Int} (ta : Tr a) (tb : Tr b) (tc : Tr c) (nc : c ≠ []) (h : tm a c = tm b c) : a = b :=
  ta.ext tb (Aix nc (tc.lead nc) fun k => by rw [<- Bv, <- Bv, h])
theorem Afm {a b : List Int} (ta : Tr a) (tb : Tr b) (na : a ≠ []) (nb : b ≠ []) : tm a b ≠ [] := fun z => by
  have := Ng ta tb na nb
  rw [z, List.length_nil] at this
  have h1 := List.length_pos_iff.mpr na
  have h2 := List.length_pos_iff.mpr nb
  omega
theorem U4 (a b : List Int) (i : Nat) : co (a ++ b) i = if i < a.length then co a i else co b (i - a.length) := by
  unfold co
  rw [List.getD_eq_getElem?_getD, List.getD_eq_getElem?_getD, List.getD_eq_getElem?_getD]
  split
  . rename_i h
    rw [List.getElem?_append_left h]
  . rename_i h
    rw [List.getElem?_append_right (by omega)]
theorem Ae4 {L : List Int} (h1 : gl L = 1) (h2 : 0 < co L (L.length - 1)) : pln L = L := by
  have e : un L = 1 := by
    unfold un
    rw [if_neg (by omega), h1]
    rfl
  unfold pln
  rw [e]
  simp
theorem QF.plain {p q T B : List Int} (h : QF p q T B) : pln (T ++ B) = T ++ B := Ae4 h.gl1 (by
  have hl := List.length_pos_iff.mpr h.nB
  rw [List.length_append, U4, if_neg (by omega), show T.length + B.length - 1 - T.length = B.length - 1 by omega]
  exact h.pos)
theorem U5 {p : List Int} {c : Int} (hp : Tr p) (hc : c ≠ 0) : Tr (p.map (c * ·)) := by
  by_cases n : p = []
  . subst n; exact .inl rfl
  . refine Tr.of (.inr ?_)
    rw [List.length_map, Bw]
    exact Int.mul_ne_zero hc (hp.lead n)
theorem Sh (c : Int) (p q : List Int) (i : Nat) : co (tm (p.map (c * ·)) q) i = c * co (tm p q) i := by rw [Bv, Bv, congrFun (Ed (co q) c p) i]
theorem QF.uniq {p q T B p' q' T' B' : List Int} (a : QF p q T B) (b : QF p' q' T' B') (tq : Tr q) (nq : q ≠ []) (tq' : Tr q') (nq' : q' ≠ []) (e : tm p q' = tm p' q) : T = T' /\ B = B' := by
  have x : tm T B' = tm T' B := by
    refine Uo (Dj _ _) (Dj _ _) (Dj q q') (Afm tq tq' nq nq') ?_
    have l : tm (tm T B') (tm q q') = tm (tm B B') (tm p q') := by
      have : tm (tm T B') (tm q q') = tm (tm T q) (tm B' q') := by
        rw [Br, Br, <- Br B' q q', Bq B' q, Br]
      rw [this, a.eq, Br, Br, <- Br p B' q', Bq p B', Br]
    have r : tm (tm T' B) (tm q q') = tm (tm B B') (tm p' q) := by
      have : tm (tm T' B) (tm q q') = tm (tm T' q') (tm B q) := by
        rw [Bq q q', Br, Br, <- Br B q' q, Bq B q', Br]
      rw [this, b.eq, Bq B B', Br, Br, <- Br p' B q, Bq p' B, Br]
    rw [l, r, e]
  have d1 : Dv B B' := Ad5 a.tB a.nB a.cop (by rw [x]; exact (Dv.refl B).mul_left T')
  have d2 : Dv B' B := Ad5 b.tB b.nB b.cop (by rw [<- x]; exact (Dv.refl B').mul_left T)
  have pb : pln B = pln B' := Ab4 (Mf a.tB) (Mf b.tB) (Nb a.tB) (Nb b.tB) ((Oz a.tB).1.trans (d1.trans (Oz b.tB).2)) ((Oz b.tB).1.trans (d2.trans (Oz a.tB).2))
  have u1 := T5 a.tB a.nB
  have u2 := T5 b.tB b.nB
  have hB : B'.map (un B * ·) = B.map (un B' * ·) := (U5 b.tB u1).ext (U5 a.tB u2) fun i => by
    rw [Bw, Bw, <- Ma b.tB b.nB i, <- Ma a.tB a.nB i, pb]
    grind
  have hT : T.map (un B' * ·) = T'.map (un B * ·) := by
    refine Uo (U5 a.tT u2) (U5 b.tT u1) a.tB a.nB ((Dj _ _).ext (Dj _ _) fun i => ?_)
    rw [Sh, Sh, <- x]
    have e1 : un B' * co (tm T B) i = co (tm T (B.map (un B' * ·))) i := by
      rw [Bq T (B.map _), Sh, Bq B T]
    have e2 : un B * co (tm T B') i = co (tm T (B'.map (un B * ·))) i := by
      rw [Bq T (B'.map _), Sh, Bq B' T]
    rw [e1, e2, hB]
  have lT : T.length = T'.length := by
    have := congrArg List.length hT
    rwa [List.length_map, List.length_map] at this
  have hL : (T ++ B).map (un B' * ·) = (T' ++ B').map (un B * ·) := by
    rw [List.map_append, List.map_append, hT, hB]
  have trL : ∀ {T B : List Int}, Tr B -> B ≠ [] -> Tr (T ++ B) := fun {T B} tB nB => by
    refine Tr.of (.inr ?_)
    have hl := List.length_pos_iff.mpr nB
    rw [List.length_append, U4, if_neg (by omega), show T.length + B.length - 1 - T.length = B.length - 1 by omega]
    exact tB.lead nB
  have t1 := trL (T := T) a.tB a.nB
  have t2 := trL (T := T') b.tB b.nB
  have q1 := Acb t1 u2 (U5 t1 u2) fun k => Bw _ _ k
  have q2 := Acb t2 u1 (U5 t2 u1) fun k => Bw _ _ k
  have L : T ++ B = T' ++ B' := by rw [<- a.plain, <- b.plain, <- q1, <- q2, hL]
  exact List.append_inj L lT
theorem Aa2 (n : Int) : ∀ L : List Int, gl (L.map (n * ·)) = n.natAbs * gl L
  | [] => by simp [gl]
  | a :: L => by
    rw [List.map_cons, gl, gl, Aa2 n L]
    have : Int.gcd (n * a) ((n.natAbs * gl L : Nat) : Int) = Int.gcd (n * a) (n * (gl L : Nat)) := by
      unfold Int.gcd
      rw [Int.natAbs_mul n (gl L : Nat), Int.natAbs_natCast, Int.natAbs_natCast]
    rw [this, Int.gcd_mul_left]
theorem Ad8 {n : Int} {T top : List Int} (n0 : n ≠ 0) (tT : Tr T) (tt : Tr top) (h : ∀ i, n * co T i = co top i) : T.map (n * ·) = top := (U5 tT n0).ext tt fun i => by rw [Bw, h]
theorem QF.make {p q g top bot T B : List Int} {n : Int} (tq : Tr q) (nq : q ≠ []) (tt : Tr top) (tb : Tr bot) (gc : Gc p q g) (ep : tm top g = p) (eq : tm bot g = q) (n0 : n ≠ 0) (tT : Tr T) (tB : Tr B) (hT : ∀ i, n * co T i = co top i) (hB : ∀ i, n * co B i = co bot i) (pos : 0 < co B (B.length - 1)) (hn : n.natAbs = gl (top ++ bot)) : QF p q T B := by
  have nB : B ≠ [] := fun z => by
    rw [z, Ay] at pos
    omega
  have eT := Ad8 n0 tT tt hT
  have eB := Ad8 n0 tB tb hB
  have g1 : gl (T ++ B) = 1 := by
    have e := Aa2 n (T ++ B)
    rw [List.map_append, eT, eB, <- hn] at e
    have hp := Int.natAbs_pos.mpr n0
    exact Nat.eq_of_mul_eq_mul_left hp (by omega)
  have ng0 : g ≠ [] := (gc.two.len gc.tr tq nq).1
  refine ⟨tT, tB, nB, pos, g1, fun d td dT dB => ?_, (Dj _ _).ext (Dj _ _) fun i => Int.eq_of_mul_eq_mul_left n0 ?_⟩
  . have d1 : Dv d top := dT.scale (a := n) (b := 1) (by decide) fun i => by rw [hT]; omega
    have d2 : Dv d bot := dB.scale (a := n) (b := 1) (by decide) fun i => by rw [hB]; omega
    have a1 : Dv (tm g d) p := by rw [<- ep, Bq top g]; exact d1.times g
    have a2 : Dv (tm g d) q := by rw [<- eq, Bq bot g]; exact d2.times g
    have a3 := gc.all _ a1 a2
    have nd : d ≠ [] := (dB.len td tB nB).1
    have l1 := (a3.len (Dj _ _) gc.tr ng0).2
    have l2 := Ng gc.tr td ng0 nd
    omega
  . have e1 : n * co (tm T q) i = co (tm top q) i := by rw [<- eT, Sh]
    have e2 : n * co (tm B p) i = co (tm bot p) i := by rw [<- eB, Sh]
    rw [e1, e2]
    have : tm top q = tm bot p := by
      rw [<- ep, <- eq, <- Br, <- Br, Bq top bot]
    rw [this]
theorem QF.self {p q T B : List Int} (h : QF p q T B) : QF T B T B := ⟨h.tT, h.tB, h.nB, h.pos, h.gl1, h.cop, by rw [Bq]⟩
theorem QF.gc {p q T B g : List Int} (h : QF p q T B) (gc : Gc T B g) : g.length = 1 := by
  have l := h.cop g gc.tr gc.one gc.two
  have n := (gc.two.len gc.tr h.tB h.nB).1
  have := List.length_pos_iff.mpr n
  omega
end Z
namespace Z
open PySem L2
theorem abs_eq (i : Int) : (if i < 0 then -i else i) = ((i.natAbs : Nat) : Int) := by
  split <;> omega
theorem Ad2 (x y : Nat) : Nat.gcd y (x % y) = Nat.gcd x y := by
  rw [Nat.gcd_comm, <- Nat.gcd_rec, Nat.gcd_comm]
local macro_rules | `(tactic| contradiction) => `(tactic| simp only [K7, Gp, K4, Lg, Gn, Kz, Dh, Ky, Gq, Fx, z_c, U8, V0, Vw, Ld, Vy, K8, Le, K6, Lb, Et, Vz, Ku, Lk, Ko, Gi, Fw, K5, Lw, Vr, Fp, Ls, Ge, V1, Gz, Lj, Gm, Vu, Ly, K1, Dw, Fl, Gd, Fi, Dz, Fo, Lx, Lf, Ln, Iz, Vx, Cz, Gh, K9, V2, Ks, Gs, Lp, Kv, Gv, Kr, Gf, Fq, Gx, Eb, Lr, Dy, Fv, Gj, Ga, Ea, Kq, Gk, Lh, Gu, Fy, Fj, Du, Gw, Vs, cpσ, List.getElem?_cons_zero, List.getElem?_cons_succ, Option.join_some, List.set_cons_zero, List.set_cons_succ, List.append_nil, decide_eq_true_eq, Bool.not_eq_true', decide_eq_false_iff_not, Bool.not_not, ite_not, Bool.false_eq_true, Bool.true_eq_false, if_false, if_true, if_pos, List.length_cons, List.length_nil, Nat.zero_add, Nat.reduceAdd, Gy, Gg, true_and, and_true, L2.start, List.map_cons, List.map_nil, Bool.not_true, Bool.not_false, Nat.reduceSub, List.replicate_succ, List.replicate_zero, List.cons_append, List.nil_append])
def top (i : Nat) : Stmt := PySem.Challenge.pw_rootcourt_k61_one_plain_form.main.body.getD i (.Pass ⟨0, 0, 0, 0⟩)
abbrev Nv : Stmt := top 6
theorem Wd : Ao ["thing"] ["thing"] (Ag Nv) := ⟨rfl, rfl, rfl, by decide +kernel, rfl, by decide +kernel, by decide +kernel⟩
abbrev Qy : Stmt := top 7
theorem Ka : Ao ["one", "other", "greater", "lesser"] ["one", "other"] (Ag Qy) := ⟨rfl, rfl, rfl, by decide +kernel, rfl, by decide +kernel, by decide +kernel⟩
abbrev J3 : Stmt := top 8
theorem G8 : Ao ["some", "found", "number"] ["some"] (Ag J3) := ⟨rfl, rfl, rfl, by decide +kernel, rfl, by decide +kernel, by decide +kernel⟩
abbrev Ol : Stmt := top 10
theorem Mw : Ao ["top", "bottom", "shared"] ["top", "bottom"] (Ag Ol) := ⟨rfl, rfl, rfl, by decide +kernel, rfl, by decide +kernel, by decide +kernel⟩
abbrev Aa4 : Stmt := top 11
theorem Afh : Ao ["one", "other"] ["one", "other"] (Ag Aa4) := ⟨rfl, rfl, rfl, by decide +kernel, rfl, by decide +kernel, by decide +kernel⟩
abbrev M6 : Stmt := top 13
theorem Ye : Ao ["thing"] ["thing"] (Ag M6) := ⟨rfl, rfl, rfl, by decide +kernel, rfl, by decide +kernel, by decide +kernel⟩
abbrev Abd : Stmt := top 14
theorem Wv : Ao ["weights", "length"] ["weights"] (Ag Abd) := ⟨rfl, rfl, rfl, by decide +kernel, rfl, by decide +kernel, by decide +kernel⟩
abbrev Uj : Stmt := top 15
theorem Abk : Ao ["one"] ["one"] (Ag Uj) := ⟨rfl, rfl, rfl, by decide +kernel, rfl, by decide +kernel, by decide +kernel⟩
abbrev Pb : Stmt := top 16
theorem Fb : Ao ["one", "other", "weights", "place", "weight"] ["one", "other"] (Ag Pb) := ⟨rfl, rfl, rfl, by decide +kernel, rfl, by decide +kernel, by decide +kernel⟩
abbrev Rf : Stmt := top 17
theorem Ym : Ao ["one", "other"] ["one", "other"] (Ag Rf) := ⟨rfl, rfl, rfl, by decide +kernel, rfl, by decide +kernel, by decide +kernel⟩
abbrev Rg : Stmt := top 18
theorem Hh : Ao ["one", "other", "weights", "place", "weight", "further", "factor"] ["one", "other"] (Ag Rg) := ⟨rfl, rfl, rfl, by decide +kernel, rfl, by decide +kernel, by decide +kernel⟩
abbrev Pj : Stmt := top 19
theorem Aac : Ao ["one", "factor"] ["one", "factor"] (Ag Pj) := ⟨rfl, rfl, rfl, by decide +kernel, rfl, by decide +kernel, by decide +kernel⟩
abbrev Wg : Stmt := top 20
theorem Ady : Ao ["one", "many"] ["one", "many"] (Ag Wg) := ⟨rfl, rfl, rfl, by decide +kernel, rfl, by decide +kernel, by decide +kernel⟩
abbrev Oi : Stmt := top 21
theorem Ei : Ao ["start", "one", "many", "product", "found", "square", "left"] ["start", "one", "many", "product"] (Ag Oi) := ⟨rfl, rfl, rfl, by decide +kernel, rfl, by decide +kernel, by decide +kernel⟩
abbrev Je : Stmt := top 22
theorem R3 : Ao ["number", "many"] ["number", "many"] (Ag Je) := ⟨rfl, rfl, rfl, by decide +kernel, rfl, by decide +kernel, by decide +kernel⟩
abbrev Ud : Stmt := top 23
theorem Ab9 : Ao ["one", "many"] ["one", "many"] (Ag Ud) := ⟨rfl, rfl, rfl, by decide +kernel, rfl, by decide +kernel, by decide +kernel⟩
abbrev W9 : Stmt := top 24
theorem Adw : Ao ["one", "point"] ["one", "point"] (Ag W9) := ⟨rfl, rfl, rfl, by decide +kernel, rfl, by decide +kernel, by decide +kernel⟩
abbrev Jc : Stmt := top 25
theorem Cg : Ao ["one", "point", "total", "scale", "weight", "top", "bottom"] ["one", "point"] (Ag Jc) := ⟨rfl, rfl, rfl, by decide +kernel, rfl, by decide +kernel, by decide +kernel⟩
abbrev Jd : Stmt := top 27
theorem Ve : Ao ["one", "m"] ["one", "m"] (Ag Jd) := ⟨rfl, rfl, rfl, by decide +kernel, rfl, by decide +kernel, by decide +kernel⟩
abbrev Js : Stmt := top 28
theorem Cu : Ao ["number", "m", "greater", "lesser", "ahead", "here", "many"] ["number", "m"] (Ag Js) := ⟨rfl, rfl, rfl, by decide +kernel, rfl, by decide +kernel, by decide +kernel⟩
abbrev Oq : Stmt := top 29
theorem Dn : Ao ["one", "other", "m", "inverse", "rest", "quotient", "place", "factor", "further", "weight"] ["one", "other", "m"] (Ag Oq) := ⟨rfl, rfl, rfl, by decide +kernel, rfl, by decide +kernel, by decide +kernel⟩
abbrev Ug : Stmt := top 30
theorem Aa9 : Ao ["one", "other", "m"] ["one", "other", "m"] (Ag Ug) := ⟨rfl, rfl, rfl, by decide +kernel, rfl, by decide +kernel, by decide +kernel⟩
abbrev S8 : Stmt := top 31
theorem U7 : Ao ["one", "t", "told"] ["one", "t"] (Ag S8) := ⟨rfl, rfl, rfl, by decide +kernel, rfl, by decide +kernel, by decide +kernel⟩
abbrev Nz : Stmt := top 32
theorem Iw : Ao ["one", "other", "t", "first", "second"] ["one", "other", "t"] (Ag Nz) := ⟨rfl, rfl, rfl, by decide +kernel, rfl, by decide +kernel, by decide +kernel⟩
abbrev Rj : Stmt := top 35
theorem Ys : Ao ["one"] ["one"] (Ag Rj) := ⟨rfl, rfl, rfl, by decide +kernel, rfl, by decide +kernel, by decide +kernel⟩
abbrev Wi : Stmt := top 36
theorem Adq : Ao ["one"] ["one"] (Ag Wi) := ⟨rfl, rfl, rfl, by decide +kernel, rfl, by decide +kernel, by decide +kernel⟩
abbrev Abw : Stmt := top 37
theorem Ags : Ao ["one"] ["one"] (Ag Abw) := ⟨rfl, rfl, rfl, by decide +kernel, rfl, by decide +kernel, by decide +kernel⟩
abbrev Pg : Stmt := top 38
theorem Abh : Ao ["one", "number"] ["one", "number"] (Ag Pg) := ⟨rfl, rfl, rfl, by decide +kernel, rfl, by decide +kernel, by decide +kernel⟩
abbrev J8 : Stmt := top 39
theorem M4 : Ao ["one", "other", "division"] ["one", "other"] (Ag J8) := ⟨rfl, rfl, rfl, by decide +kernel, rfl, by decide +kernel, by decide +kernel⟩
abbrev Dp : Stmt := top 40
theorem Ba : Ao ["one", "other", "scaling", "scale", "quotient", "rest", "place", "missing", "factor", "further", "weight"] ["one", "other", "scaling"] (Ag Dp) := ⟨rfl, rfl, rfl, by decide +kernel, rfl, by decide +kernel, by decide +kernel⟩
abbrev Ue : Stmt := top 41
theorem Abr : Ao ["one", "other"] ["one", "other"] (Ag Ue) := ⟨rfl, rfl, rfl, by decide +kernel, rfl, by decide +kernel, by decide +kernel⟩
abbrev Hw : Stmt := top 42
theorem Rr : Ao ["one", "other"] ["one", "other"] (Ag Hw) := ⟨rfl, rfl, rfl, by decide +kernel, rfl, by decide +kernel, by decide +kernel⟩
abbrev Kh : Stmt := top 44
theorem Bj : Ao ["first", "second", "lead", "height", "steps", "known", "third"] ["first", "second"] (Ag Kh) := ⟨rfl, rfl, rfl, by decide +kernel, rfl, by decide +kernel, by decide +kernel⟩
abbrev Od : Stmt := top 45
theorem Ef : Ao ["first", "second", "known", "scale", "third", "quotient", "rest", "upper", "lower"] ["first", "second", "known"] (Ag Od) := ⟨rfl, rfl, rfl, by decide +kernel, rfl, by decide +kernel, by decide +kernel⟩
abbrev Eo : Stmt := top 46
theorem Bp : Ao ["one", "other", "quotient", "rest", "place", "top", "term"] ["one", "other"] (Ag Eo) := ⟨rfl, rfl, rfl, by decide +kernel, rfl, by decide +kernel, by decide +kernel⟩
abbrev Jf : Stmt := top 48
theorem Ia : Ao ["thing", "top", "bottom"] ["thing"] (Ag Jf) := ⟨rfl, rfl, rfl, by decide +kernel, rfl, by decide +kernel, by decide +kernel⟩
abbrev Eh : Stmt := top 49
theorem K3 : Ao ["top", "bottom"] ["top", "bottom"] (Ag Eh) := ⟨rfl, rfl, rfl, by decide +kernel, rfl, by decide +kernel, by decide +kernel⟩
abbrev Z0 : Stmt := top 50
theorem Ob : Ao ["p", "q", "part", "top", "bottom", "number"] ["p", "q"] (Ag Z0) := ⟨rfl, rfl, rfl, by decide +kernel, rfl, by decide +kernel, by decide +kernel⟩
abbrev Qk : Stmt := top 51
theorem Oe : Ao ["p", "q", "top", "bottom", "a", "b", "c"] ["p", "q"] (Ag Qk) := ⟨rfl, rfl, rfl, by decide +kernel, rfl, by decide +kernel, by decide +kernel⟩
abbrev Tp : Stmt := top 52
theorem Zh : Ao ["f", "g"] ["f", "g"] (Ag Tp) := ⟨rfl, rfl, rfl, by decide +kernel, rfl, by decide +kernel, by decide +kernel⟩
abbrev Pz : Stmt := top 53
theorem Yy : Ao ["f", "r"] ["f", "r"] (Ag Pz) := ⟨rfl, rfl, rfl, by decide +kernel, rfl, by decide +kernel, by decide +kernel⟩
abbrev Mv : Stmt := top 55
theorem Uq : Ao ["_law_script", "_law_k"] ["_law_script", "_law_k"] (Ag Mv) := ⟨rfl, rfl, rfl, by decide +kernel, rfl, by decide +kernel, by decide +kernel⟩
abbrev Qw : Stmt := top 56
theorem N8 : Ao ["_law_cell", "_law_k", "_law_draw"] ["_law_cell", "_law_k"] (Ag Qw) := ⟨rfl, rfl, rfl, by decide +kernel, rfl, by decide +kernel, by decide +kernel⟩
abbrev N6 : Stmt := top 57
theorem Hl : Ao ["_law_cell", "_law_many", "_law_base", "_law_found", "_law_rest", "_law_k"] ["_law_cell", "_law_many", "_law_base"] (Ag N6) := ⟨rfl, rfl, rfl, by decide +kernel, rfl, by decide +kernel, by decide +kernel⟩
abbrev Ph : Stmt := top 58
theorem Zj : Ao ["_law_cell", "_law_size"] ["_law_cell", "_law_size"] (Ag Ph) := ⟨rfl, rfl, rfl, by decide +kernel, rfl, by decide +kernel, by decide +kernel⟩
abbrev Ib : Stmt := top 59
theorem Jv : Ao ["_law_cell", "_law_size", "_law_found"] ["_law_cell", "_law_size"] (Ag Ib) := ⟨rfl, rfl, rfl, by decide +kernel, rfl, by decide +kernel, by decide +kernel⟩
abbrev Mp : Stmt := top 60
theorem Hr : Ao ["_law_p", "_law_deed", "_law_good", "e"] ["_law_p", "_law_deed"] (Ag Mp) := ⟨rfl, rfl, rfl, by decide +kernel, rfl, by decide +kernel, by decide +kernel⟩
abbrev Ot : Stmt := top 61
theorem Ep : Ao ["_law_found", "_law_cell", "_law_far", "_law_some", "_law_top", "_law_bottom"] ["_law_found", "_law_cell"] (Ag Ot) := ⟨rfl, rfl, rfl, by decide +kernel, rfl, by decide +kernel, by decide +kernel⟩
abbrev Tc : Stmt := top 62
theorem Ni : Ao ["_law_script", "_law_cell", "_law_size", "_law_one", "_law_other", "_law_more", "_law_by", "_law_found", "_law_thing"] ["_law_script"] (Ag Tc) := ⟨rfl, rfl, rfl, by decide +kernel, rfl, by decide +kernel, by decide +kernel⟩
def Adc (K : PySem.W.Frag) : Sp := fun vs H Q _ => ∃ (a : Addr) (ns : List Int), vs = [.ref a] /\ SqL K H a (ns.map V.int) /\ ns.length <= 63 /\ ∀ H', Q (.bl true) H'
def cell (ns : List Int) (k : Int) : Int := ns.getD k.toNat 0
def Jx (K : PySem.W.Frag) : Sp := fun vs H Q _ => ∃ (a : Addr) (ns : List Int) (k : Int), vs = [.ref a, .int k] /\ SqL K H a (ns.map V.int) /\ 0 <= k /\ Q (.int (cell ns k)) H
section
variable {P : Program} {w : World} {K : PySem.W.Frag} {mg : Str -> Option Value} {base : Heap}
theorem Vd {f : Addr} {fd : FuncData} (F : Df K mg "_law_cell_at" Mv ["_law_script", "_law_k"] f fd) (z_len : mg "len" = none)   : Cal P w K mg base 1 "_law_cell_at" ["_law_script", "_law_k"] (Jx K) := by
  refine F.cal (F.fn.ok Uq (fun vs H Q E h => ?_) (fun cdv A outer s H vs Q E hr h => ?_))
  . obtain ⟨a, ns, k, rfl, _⟩ := h
    rfl
  obtain ⟨a, ns, k, rfl, hS, hk, q⟩ := h
  refine S.Bd ⟨_, (S.Ac (S.Cy (S.Aj Tt (S.pv 1) (S.Dd Aw rfl z_len PySem.boot_len (S.Aa (S.pv 0) S.Ab)) (Aq _)) (S.Ae (S.Al (S.Bo Fg (S.pv 0) (S.pv 1) (fun _ _ => rfl)))) S.Bb)
      (S.Ae (S.Al S.Ad))), ?_⟩
  contradiction
  refine ⟨a, _, rfl, .inl hS, ?_⟩
  rw [List.length_map]
  split
  . rename_i h
    have hk' : k.toNat < ns.length := by omega
    refine Ack hS (v := .int (cell ns k)) ?_ q
    have e := Jz (xs := ns.map V.int) (j := k.toNat) (v := .int (cell ns k)) (by
      rw [List.getElem?_map, List.getElem?_eq_getElem hk']
      unfold cell
      rw [List.getD_eq_getElem?_getD, List.getElem?_eq_getElem hk']
      rfl)
    rw [Int.toNat_of_nonneg hk] at e
    exact e
  . rename_i h
    have e : cell ns k = 0 := by
      unfold cell
      rw [List.getD_eq_getElem?_getD, List.getElem?_eq_none (by omega)]
      rfl
    rw [e] at q
    exact q
theorem Hu (p : List Int) : (trim p).length <= p.length := (Av p).len fun i => Am p i
def Po (K : PySem.W.Frag) (H : Hp) (v : V) (p : List Int) (l n : Nat) : Prop := (∃ a, v = .ref a /\ SqT K H a (p.map V.int)) /\ Tr p /\ p.length <= l /\ ∀ i, Sz n (co p i)
theorem Po.mono {K : PySem.W.Frag} {H H' : Hp} {v : V} {p : List Int} {l n : Nat} (h : Po K H v p l n) (s : Same H H') : Po K H' v p l n := by
  obtain ⟨⟨a, e, t⟩, r⟩ := h
  exact ⟨⟨a, e, s.tup t⟩, r⟩
theorem Sz0 {n : Nat} (h : 0 < n) : Sz n 0 := Nat.pow_pos (by decide)
theorem Wm {p : List Int} {n : Nat} (h0 : 0 < n) (h : ∀ x ∈ p, Sz n x) (i : Nat) : Sz n (co p i) := by
  by_cases hi : i < p.length
  . rw [Cp hi]
    exact h _ (List.getElem_mem hi)
  . rw [Bk (by omega)]
    exact Sz0 h0
def SqI (K : PySem.W.Frag) (H : Hp) (a : Addr) (ns : List Int) : Prop := SqL K H a (ns.map V.int) \/ SqT K H a (ns.map V.int)
theorem X4 {H H1 : Hp} {Q : VK} {E : XK} {a : Addr} {ns : List Int} {j : Int} (hS : SqL K H1 a (ns.map V.int)) (s1 : Same H1 H) (h0 : 0 <= j) (h : Q (.int (cell ns j)) H) : Jx K [.ref a, .int j] H Q E := ⟨a, ns, j, rfl, s1.seq hS, h0, h⟩
def Ja (K : PySem.W.Frag) : Sp := fun vs H Q _ => ∃ (a : Addr) (ns : List Int), vs = [.ref a] /\ SqI K H a ns /\ ns.length <= 1000 /\ ∀ z H', Same H H' -> SqT K H' z ((trim ns).map V.int) -> Q (.ref z) H'
theorem Agn {f : Addr} {fd : FuncData} (F : Df K mg "poly" Abd ["weights"] f fd) (z_len : mg "len" = none) (z_tuple : mg "tuple" = none)   : Cal P w K mg base 1 "poly" ["weights"] (Ja K) := by
  refine F.cal (F.fn.ok Wv (fun vs H Q E h => ?_) (fun cdv A outer s H vs Q E hr h => ?_))
  . obtain ⟨a, ns, rfl, _⟩ := h
    rfl
  obtain ⟨a, ns, rfl, hS, hl, q⟩ := h
  refine S.Bd ⟨_, (S.Ac (S.Ah (i := 1) Wv.nd rfl (Or.inl rfl) (S.Dd Aw rfl z_len PySem.boot_len (S.Aa (S.pv 0) S.Ab)))
      (S.Ac (S.Hg PassesOwn.never (S.O6 (S.Vg (S.Aj Vk (S.pv 1) S.Ad (Aq _)) (S.Px (S.Aj Lq (S.Bo Aic (S.pv 0) (S.Ak Ej (S.pv 1) S.Ad) (fun _ _ => rfl)) S.Ad (Aq _))))) (S.Ae (S.Ah (i := 1) Wv.nd rfl (Or.inl rfl) (S.Ak Ej (S.pv 1) S.Ad))))
      (S.Ae (S.Al (S.Ft El rfl z_tuple PyProof.Rows.boot_tuple (S.Aa (S.Kf Aik (S.pv 0) S.N5 (S.Og (S.pv 1))) S.Ab)))))), ?_⟩
  contradiction
  refine ⟨a, _, rfl, hS, ?_⟩
  rw [List.length_map]
  refine Pn (fun σ H' => H' = H /\ ∃ n : Nat, σ = [some (.ref a), some (.int n)] /\ n <= ns.length /\ ∀ i, n <= i -> co ns i = 0) (fun σ _ => match σ with | [_, some (.int n)] => n.toNat | _ => 0)
    ⟨rfl, _, rfl, Nat.le_refl _, fun i h => Bk h⟩ ?_
  rintro σ H' ⟨rfl, n, rfl, hn, hz⟩
  have fin : (n = 0 \/ co ns (n - 1) ≠ 0) -> Akd K (V.ref a) none (some (n : Int)) H' (fun x H1 => ∃ p ys, [x] = [V.ref p] /\ ((SqL K H1 p ys /\ ∀ (l : Addr), H1 l = none -> Q (V.ref l) (upd H1 l (HO.tup ys))) \/ SqT K H1 p ys /\ Q (V.ref p) H1)) := fun h => by
    have e : T8 (ns.map V.int) none (some (n : Int)) = (trim ns).map V.int := by
      rw [Zy hz h]
      unfold T8
      rw [HT.Pa, HT.V5, List.drop_zero, Nat.sub_zero, List.length_map, Nat.min_eq_left hn, List.map_take]
    rcases hS with hS | hS
    . refine ⟨a, _, rfl, .inl ⟨hS, fun z H2 s2 hz2 => ?_⟩⟩
      rw [e] at hz2
      exact ⟨z, _, rfl, .inl ⟨hz2, fun y hy => q y _ (s2.trans (Same.upd hy _)) (.of Af)⟩⟩
    . refine ⟨a, _, rfl, .inr ⟨hS, fun z H2 s2 hz2 => ?_⟩⟩
      rw [e] at hz2
      exact ⟨z, _, rfl, .inr ⟨hz2, q z _ s2 hz2⟩⟩
  contradiction
  by_cases h0 : (0 : Int) < n
  . rw [if_pos h0]
    refine ⟨a, _, _, .int (co ns (n - 1)), rfl, rfl, hS, ?_, ?_⟩
    . have e := Jz (xs := ns.map V.int) (j := n - 1) (v := .int (co ns (n - 1))) (by rw [List.getElem?_map, List.getElem?_eq_getElem (by omega), Cp (by omega)]; rfl)
      rw [show ((n - 1 : Nat) : Int) = (n : Int) - 1 by omega] at e
      exact e
    contradiction
    by_cases hc : co ns (n - 1) = 0
    . rw [if_pos hc]
      refine Af6 ?_
      contradiction
      refine ⟨⟨n - 1, by rw [show ((n - 1 : Nat) : Int) = (n : Int) - 1 by omega], by omega, fun i hi => ?_⟩, by omega⟩
      by_cases hi' : i = n - 1
      . rw [hi', hc]
      . exact hz i (by omega)
    . rw [if_neg hc]
      exact fin (.inr hc)
  . rw [if_neg h0]
    exact fin (.inl (by omega))
def Ajq : Sp := fun vs H Q _ => ∃ a b : Int, vs = [.int a, .int b] /\ Q (.int (Int.gcd a b : Int)) H
def Kc (_ : PySem.W.Frag) : Sp := Ajq
theorem Y4 {f : Addr} {fd : FuncData} (F : Df K mg "divisor" Qy ["one", "other"] f fd) (z_abs : mg "abs" = none)   : Cal P w K mg base 1 "divisor" ["one", "other"] (Kc K) := by
  refine F.cal (F.fn.ok Ka (fun vs H Q E h => ?_) (fun cdv A outer s H vs Q E hr h => ?_))
  . obtain ⟨a, b, rfl, _⟩ := h
    rfl
  obtain ⟨a, b, rfl, q⟩ := h
  refine S.Bd ⟨_, (S.Ac (S.Ah (i := 2) Ka.nd rfl (Or.inl rfl) (S.Dd Ul rfl z_abs PyProof.Rows.boot_abs (S.Aa (S.pv 0) S.Ab)))
      (S.Ac (S.Ah (i := 3) Ka.nd rfl (Or.inl rfl) (S.Dd Ul rfl z_abs PyProof.Rows.boot_abs (S.Aa (S.pv 1) S.Ab)))
      (S.Ac (S.Hg PassesOwn.never (S.Aj Ry (S.pv 3) S.Ad (Aq _)) (S.Ae (S.Nf (i := 2) (j := 3) rfl Ka.nd rfl rfl (by decide) rfl rfl (S.Aa (S.pv 3) (S.Aa (S.Ak Ec (S.pv 2) (S.pv 3)) S.Ab)) rfl)))
      (S.Ae (S.Al (S.pv 2)))))), ?_⟩
  simp only [K7, Gp, K4, Lg, Gn, Kz, Dh, Ky, Gq, Fx, z_c, U8, V0, Vw, Ld, Vy, K8, Le, K6, Lb, Et, Vz, Ku, Lk, Ko, Gi, Fw, K5, Lw, Vr, Fp, Ls, Ge, V1, Gz, Lj, Gm, Vu, Ly, K1, Dw, Fl, Gd, Fi, Dz, Fo, Lx, Lf, Ln, Iz, Vx, Cz, Gh, K9, V2, Ks, Gs, Lp, Kv, Gv, Kr, Gf, Fq, Gx, Eb, Lr, Dy, Fv, Gj, Ga, Ea, Kq, Gk, Lh, Gu, Fy, Fj, Du, Gw, Vs, cpσ, List.getElem?_cons_zero, List.getElem?_cons_succ, Option.join_some, List.set_cons_zero, List.set_cons_succ, List.append_nil, decide_eq_true_eq, Bool.not_eq_true', decide_eq_false_iff_not, Bool.not_not, ite_not, Bool.false_eq_true, Bool.true_eq_false, if_false, if_true, if_pos, List.length_cons, List.length_nil, Nat.zero_add, Nat.reduceAdd, Gy, Gg, true_and, and_true, L2.start, List.map_cons, List.map_nil, Bool.not_true, Bool.not_false, Nat.reduceSub, List.replicate_succ, List.replicate_zero, List.cons_append, List.nil_append, abs_eq]
  refine Acu (fun σ H' => H' = H /\ ∃ x y : Nat, σ = [some (.int a), some (.int b), some (.int x), some (.int y)] /\ Nat.gcd x y = Nat.gcd a.natAbs b.natAbs)
    (fun σ _ => match σ with | [_, _, _, some (.int y)] => y.toNat | _ => 0) ⟨rfl, _, _, rfl, rfl⟩ ?_ ?_
  . rintro σ H' ⟨rfl, x, y, rfl, e⟩
    contradiction
    by_cases hy : (y : Int) = 0
    . rw [if_pos hy]
      have hy' : y = 0 := by omega
      subst hy'
      rw [Nat.gcd_zero_right] at e
      subst e
      exact q
    . rw [if_neg hy]
      refine ⟨by omega, ⟨y, x % y, by rw [Int.natCast_emod], by rw [Ad2]; exact e⟩, ?_⟩
      show ((x : Int) % (y : Int)).toNat < (y : Int).toNat
      rw [<- Int.natCast_emod, Int.toNat_natCast, Int.toNat_natCast]
      exact Nat.mod_lt _ (by omega)
  . intro σ H' Q1 Q2 h12
    simp only [Et, U8]
    rintro ⟨v, e1, hs⟩
    exact ⟨v, e1, by
      obtain ⟨s1, k, e2, h3⟩ := hs
      exact ⟨s1, k, e2, h12 _ _ h3⟩⟩
def Dq (K : PySem.W.Frag) : Sp := fun vs H Q _ => ∃ (x : V) (p : List Int) (l n : Nat), vs = [x] /\ Po K H x p l n /\ Q (.int ((p.length : Int) - 1)) H
theorem Abu {f : Addr} {fd : FuncData} (F : Df K mg "degree" Uj ["one"] f fd) (z_len : mg "len" = none)   : Cal P w K mg base 1 "degree" ["one"] (Dq K) := by
  refine F.cal (F.fn.ok Abk (fun vs H Q E h => ?_) (fun cdv A outer s H vs Q E hr h => ?_))
  . obtain ⟨x, p, _, _, rfl, _⟩ := h
    rfl
  obtain ⟨x, p, l, n, rfl, ⟨⟨a, rfl, ha⟩, tp, lp, zp⟩, k⟩ := h
  refine S.Bd ⟨_, (S.Ae (S.Al (S.Ak Ej (S.Dd Aw rfl z_len PySem.boot_len (S.Aa (S.pv 0) S.Ab)) S.Ad))), ?_⟩
  contradiction
  refine ⟨a, _, rfl, .inr ha, ?_⟩
  simp only [K7, Gp, K4, Lg, Gn, Kz, Dh, Ky, Gq, Fx, z_c, U8, V0, Vw, Ld, Vy, K8, Le, K6, Lb, Et, Vz, Ku, Lk, Ko, Gi, Fw, K5, Lw, Vr, Fp, Ls, Ge, V1, Gz, Lj, Gm, Vu, Ly, K1, Dw, Fl, Gd, Fi, Dz, Fo, Lx, Lf, Ln, Iz, Vx, Cz, Gh, K9, V2, Ks, Gs, Lp, Kv, Gv, Kr, Gf, Fq, Gx, Eb, Lr, Dy, Fv, Gj, Ga, Ea, Kq, Gk, Lh, Gu, Fy, Fj, Du, Gw, Vs, cpσ, List.getElem?_cons_zero, List.getElem?_cons_succ, Option.join_some, List.set_cons_zero, List.set_cons_succ, List.append_nil, decide_eq_true_eq, Bool.not_eq_true', decide_eq_false_iff_not, Bool.not_not, ite_not, Bool.false_eq_true, Bool.true_eq_false, if_false, if_true, if_pos, List.length_cons, List.length_nil, Nat.zero_add, Nat.reduceAdd, Gy, Gg, true_and, and_true, L2.start, List.map_cons, List.map_nil, Bool.not_true, Bool.not_false, Nat.reduceSub, List.replicate_succ, List.replicate_zero, List.cons_append, List.nil_append, List.length_map]
  exact k
theorem Cd {H H1 : Hp} {Q : VK} {E : XK} {x : V} {p : List Int} {l n : Nat} (hx : Po K H1 x p l n) (s1 : Same H1 H) (h : Q (.int ((p.length : Int) - 1)) H) : Dq K [x] H Q E := ⟨x, p, l, n, rfl, hx.mono s1, h⟩
theorem Ab8 {H : Hp} {Q : VK} {E : XK} {a : Addr} {ns : List Int} (h0 : SqL K H a (ns.map V.int)) (hl : ns.length <= 1000) (h : ∀ z H', Same H H' -> SqT K H' z ((trim ns).map V.int) -> Q (.ref z) H') : Ja K [.ref a] H Q E := ⟨a, ns, rfl, by first | exact h0 | exact .inl h0, hl, h⟩
def Akg (K : PySem.W.Frag) (c : List Int -> List Int -> Prop) : Sp := fun vs H Q _ => ∃ (x y : V) (p q : List Int) (l l' n n' : Nat), vs = [x, y] /\ Po K H x p l n /\ Po K H y q l' n' /\ l <= 500 /\ l' <= 500 /\ c p q /\ ∀ z H', Same H H' -> Po K H' z (ta p q) (max l l') (max n n' + 1) -> Q z H'
def Y0 (K : PySem.W.Frag) : Sp := Akg K fun p q => q.length <= p.length
def Qn (K : PySem.W.Frag) : Sp := Akg K fun _ _ => True
theorem Yo {f : Addr} {fd : FuncData} (F : Df K mg "p_plus" Pb ["one", "other"] f fd) (z_list : mg "list" = none) (z_enumerate : mg "enumerate" = none) (z_len : mg "len" = none)  (c_poly : Cal P w K mg base 1 "poly" ["weights"] (Ja K)) : Cal P w K mg base 2 "p_plus" ["one", "other"] (Y0 K) := by
  refine F.cal (F.fn.ok Fb (fun vs H Q E h => ?_) (fun cdv A outer s H vs Q E hr h => ?_))
  . obtain ⟨x, y, p, q, _, _, _, _, rfl, _⟩ := h
    rfl
  obtain ⟨x, y, p, q, l, l', n, n', rfl, ⟨⟨a, rfl, ha⟩, tp, lp, zp⟩, ⟨⟨b, rfl, hb⟩, tq, lq, zq⟩, l5, l5', hc, k⟩ := h
  refine S.Bd ⟨_, (S.Ac (S.Cy (S.Aj Tt (S.Dd Aw rfl z_len PySem.boot_len (S.Aa (S.pv 0) S.Ab)) (S.Dd Aw rfl z_len PySem.boot_len (S.Aa (S.pv 1) S.Ab)) (Aq _)) (S.Ae S.M5) S.Bb)
      (S.Ac (S.Ah (i := 2) Fb.nd rfl (Or.inl rfl) (S.Ft Eu rfl z_list PyProof.Rows.boot_list (S.Aa (S.pv 0) S.Ab)))
      (S.Ac (S.Ey PassesOwn.never rfl (S.Ti rfl z_enumerate (S.Aa (S.pv 1) S.Ab)) (S.Fz rfl (S.Bl (S.Ax (i := 3) Fb.nd rfl (Or.inl rfl)) (S.Bl (S.Ax (i := 4) Fb.nd rfl (Or.inl rfl)) S.Ek))) (S.Ae (S.Es (S.Ak Cw (S.Bo Fg (S.pv 2) (S.pv 3) (fun _ _ => rfl)) (S.pv 4)) (S.Lz (S.pv 2) (S.pv 3) set_list))))
      (S.Ae (S.Al (S.Ai c_poly (hr.mono (by decide)) (S.Aa (S.pv 2) S.Ab))))))), ?_⟩
  contradiction
  refine ⟨a, _, rfl, .inr ha, b, _, rfl, .inr hb, ?_⟩
  simp only [K7, Gp, K4, Lg, Gn, Kz, Dh, Ky, Gq, Fx, z_c, U8, V0, Vw, Ld, Vy, K8, Le, K6, Lb, Et, Vz, Ku, Lk, Ko, Gi, Fw, K5, Lw, Vr, Fp, Ls, Ge, V1, Gz, Lj, Gm, Vu, Ly, K1, Dw, Fl, Gd, Fi, Dz, Fo, Lx, Lf, Ln, Iz, Vx, Cz, Gh, K9, V2, Ks, Gs, Lp, Kv, Gv, Kr, Gf, Fq, Gx, Eb, Lr, Dy, Fv, Gj, Ga, Ea, Kq, Gk, Lh, Gu, Fy, Fj, Du, Gw, Vs, cpσ, List.getElem?_cons_zero, List.getElem?_cons_succ, Option.join_some, List.set_cons_zero, List.set_cons_succ, List.append_nil, decide_eq_true_eq, Bool.not_eq_true', decide_eq_false_iff_not, Bool.not_not, ite_not, Bool.false_eq_true, Bool.true_eq_false, if_false, if_true, if_pos, List.length_cons, List.length_nil, Nat.zero_add, Nat.reduceAdd, Gy, Gg, true_and, and_true, L2.start, List.map_cons, List.map_nil, Bool.not_true, Bool.not_false, Nat.reduceSub, List.replicate_succ, List.replicate_zero, List.cons_append, List.nil_append, List.length_map]
  have hc' : ¬ ((p.length : Nat) : Int) < (q.length : Nat) := by omega
  rw [if_neg hc']
  refine ⟨a, _, rfl, .inr ha, fun l0 hn => ?_⟩
  have s0 := Same.upd hn (.lst (p.map V.int))
  try contradiction
  refine ⟨⟨_, s0.tup hb⟩, Yr (es := q) (inj := V.int) (fun pre σ H' => ∃ (o1 o2 : Option V) (ms : List Int), σ = [some (.ref a), some (.ref b), some (.ref l0), o1, o2] /\ Same H H' /\ H' l0 = some (.lst (ms.map V.int)) /\ ms.length = p.length /\ ∀ i, co ms i = co p i + co pre i)
    ⟨_, _, p, rfl, s0, Af, rfl, fun i => by rw [Ay, Int.add_zero]⟩ ?_ ?_ ?_⟩
  . rintro pre σ H' ⟨o1, o2, ms, rfl, s1, _⟩
    exact s1.tup hb
  . rintro pre e post σ H' p1 he ⟨o1, o2, ms, rfl, s1, hm, hlm, hco⟩ hp1
    refine Ir (.of Af) ?_
    have hlen := congrArg List.length he
    rw [List.length_append, List.length_cons] at hlen
    have hj : pre.length < ms.length := by omega
    have s2 := Same.upd hp1 (.tup [V.int (pre.length : Nat), V.int e])
    have hm2 := s2 _ _ hm
    try contradiction
    refine Ox (.of hm2) (G9 hj) ?_
    try contradiction
    refine Wq hm2 (by rw [List.length_map]; exact hj) ?_
    try contradiction
    rw [Jh]
    refine ⟨_, _, ms.set pre.length (ms[pre.length] + e), rfl, ?_, Af, by rw [List.length_set]; exact hlm, fun i => ?_⟩
    . intro c o hc
      rw [Cm (Bt hc hn)]
      exact s2 _ _ (s1 _ _ hc)
    . rw [Qe _ _ _ hj, Hy, hco i]
      by_cases hi : i = pre.length
      . subst hi
        rw [if_pos rfl, if_pos rfl, <- Cp hj, hco, Bk (p := pre) (Nat.le_refl _)]
        omega
      . rw [if_neg hi, if_neg hi]
  . rintro σ H' ⟨o1, o2, ms, rfl, s1, hm, hlm, hco⟩
    try contradiction
    refine Ab8 (.of hm) (by omega) fun z H2 s2 hz => k _ _ (s1.trans s2) ⟨⟨z, rfl, ?_⟩, W0 _ _, ?_, fun i => ?_⟩
    . have e : trim ms = ta p q := R5 fun i => by rw [hco, Rh]
      rw [<- e]
      exact hz
    . have := Ad9 p q
      omega
    . rw [Ra]
      exact (zp i).add (zq i)
theorem Acf {f : Addr} {fd : FuncData} (F : Df K mg "p_plus" Pb ["one", "other"] f fd) (z_list : mg "list" = none) (z_enumerate : mg "enumerate" = none) (z_len : mg "len" = none)  (c_poly : Cal P w K mg base 1 "poly" ["weights"] (Ja K)) : Cal P w K mg base 3 "p_plus" ["one", "other"] (Qn K) := by
  have c_p_plus := Yo F (z_len := z_len) (z_list := z_list) (z_enumerate := z_enumerate) (c_poly := c_poly)
  refine F.cal (F.fn.ok Fb (fun vs H Q E h => ?_) (fun cdv A outer s H vs Q E hr h => ?_))
  . obtain ⟨x, y, p, q, _, _, _, _, rfl, _⟩ := h
    rfl
  obtain ⟨x, y, p, q, l, l', n, n', rfl, ⟨⟨a, rfl, ha⟩, tp, lp, zp⟩, ⟨⟨b, rfl, hb⟩, tq, lq, zq⟩, l5, l5', hc, k⟩ := h
  refine S.Bd ⟨_, (S.Ac (S.Cy (S.Aj Tt (S.Dd Aw rfl z_len PySem.boot_len (S.Aa (S.pv 0) S.Ab)) (S.Dd Aw rfl z_len PySem.boot_len (S.Aa (S.pv 1) S.Ab)) (Aq _)) (S.Ae (S.Al (S.Ai c_p_plus (hr.mono (by decide)) (S.Aa (S.pv 1) (S.Aa (S.pv 0) S.Ab))))) S.Bb)
      (S.Ac (S.Ah (i := 2) Fb.nd rfl (Or.inl rfl) (S.Ft Eu rfl z_list PyProof.Rows.boot_list (S.Aa (S.pv 0) S.Ab)))
      (S.Ac (S.Ey PassesOwn.never rfl (S.Ti rfl z_enumerate (S.Aa (S.pv 1) S.Ab)) (S.Fz rfl (S.Bl (S.Ax (i := 3) Fb.nd rfl (Or.inl rfl)) (S.Bl (S.Ax (i := 4) Fb.nd rfl (Or.inl rfl)) S.Ek))) (S.Ae (S.Es (S.Ak Cw (S.Bo Fg (S.pv 2) (S.pv 3) (fun _ _ => rfl)) (S.pv 4)) (S.Lz (S.pv 2) (S.pv 3) set_list))))
      (S.Ae (S.Al (S.Ai c_poly (hr.mono (by decide)) (S.Aa (S.pv 2) S.Ab))))))), ?_⟩
  contradiction
  refine ⟨a, _, rfl, .inr ha, b, _, rfl, .inr hb, ?_⟩
  simp only [K7, Gp, K4, Lg, Gn, Kz, Dh, Ky, Gq, Fx, z_c, U8, V0, Vw, Ld, Vy, K8, Le, K6, Lb, Et, Vz, Ku, Lk, Ko, Gi, Fw, K5, Lw, Vr, Fp, Ls, Ge, V1, Gz, Lj, Gm, Vu, Ly, K1, Dw, Fl, Gd, Fi, Dz, Fo, Lx, Lf, Ln, Iz, Vx, Cz, Gh, K9, V2, Ks, Gs, Lp, Kv, Gv, Kr, Gf, Fq, Gx, Eb, Lr, Dy, Fv, Gj, Ga, Ea, Kq, Gk, Lh, Gu, Fy, Fj, Du, Gw, Vs, cpσ, List.getElem?_cons_zero, List.getElem?_cons_succ, Option.join_some, List.set_cons_zero, List.set_cons_succ, List.append_nil, decide_eq_true_eq, Bool.not_eq_true', decide_eq_false_iff_not, Bool.not_not, ite_not, Bool.false_eq_true, Bool.true_eq_false, if_false, if_true, if_pos, List.length_cons, List.length_nil, Nat.zero_add, Nat.reduceAdd, Gy, Gg, true_and, and_true, L2.start, List.map_cons, List.map_nil, Bool.not_true, Bool.not_false, Nat.reduceSub, List.replicate_succ, List.replicate_zero, List.cons_append, List.nil_append, List.length_map]
  by_cases hc' : ((p.length : Nat) : Int) < (q.length : Nat)
  . rw [if_pos hc']
    refine ⟨_, _, q, p, l', l, n', n, rfl, ⟨⟨b, rfl, hb⟩, tq, lq, zq⟩, ⟨⟨a, rfl, ha⟩, tp, lp, zp⟩, l5', l5, by omega, fun z H' s i => k z H' s ?_⟩
    rw [Ae6 p q, Nat.max_comm l l', Nat.max_comm n n']
    exact i
  rw [if_neg hc']
  refine ⟨a, _, rfl, .inr ha, fun l0 hn => ?_⟩
  have s0 := Same.upd hn (.lst (p.map V.int))
  try contradiction
  refine ⟨⟨_, s0.tup hb⟩, Yr (es := q) (inj := V.int) (fun pre σ H' => ∃ (o1 o2 : Option V) (ms : List Int), σ = [some (.ref a), some (.ref b), some (.ref l0), o1, o2] /\ Same H H' /\ H' l0 = some (.lst (ms.map V.int)) /\ ms.length = p.length /\ ∀ i, co ms i = co p i + co pre i)
    ⟨_, _, p, rfl, s0, Af, rfl, fun i => by rw [Ay, Int.add_zero]⟩ ?_ ?_ ?_⟩
  . rintro pre σ H' ⟨o1, o2, ms, rfl, s1, _⟩
    exact s1.tup hb
  . rintro pre e post σ H' p1 he ⟨o1, o2, ms, rfl, s1, hm, hlm, hco⟩ hp1
    refine Ir (.of Af) ?_
    have hlen := congrArg List.length he
    rw [List.length_append, List.length_cons] at hlen
    have hj : pre.length < ms.length := by omega
    have s2 := Same.upd hp1 (.tup [V.int (pre.length : Nat), V.int e])
    have hm2 := s2 _ _ hm
    try contradiction
    refine Ox (.of hm2) (G9 hj) ?_
    try contradiction
    refine Wq hm2 (by rw [List.length_map]; exact hj) ?_
    try contradiction
    rw [Jh]
    refine ⟨_, _, ms.set pre.length (ms[pre.length] + e), rfl, ?_, Af, by rw [List.length_set]; exact hlm, fun i => ?_⟩
    . intro c o hc
      rw [Cm (Bt hc hn)]
      exact s2 _ _ (s1 _ _ hc)
    . rw [Qe _ _ _ hj, Hy, hco i]
      by_cases hi : i = pre.length
      . subst hi
        rw [if_pos rfl, if_pos rfl, <- Cp hj, hco, Bk (p := pre) (Nat.le_refl _)]
        omega
      . rw [if_neg hi, if_neg hi]
  . rintro σ H' ⟨o1, o2, ms, rfl, s1, hm, hlm, hco⟩
    try contradiction
    refine Ab8 (.of hm) (by omega) fun z H2 s2 hz => k _ _ (s1.trans s2) ⟨⟨z, rfl, ?_⟩, W0 _ _, ?_, fun i => ?_⟩
    . have e : trim ms = ta p q := R5 fun i => by rw [hco, Rh]
      rw [<- e]
      exact hz
    . have := Ad9 p q
      omega
    . rw [Ra]
      exact (zp i).add (zq i)
def Ew (K : PySem.W.Frag) : Sp := fun vs H Q _ => ∃ (x : V) (c : Int) (p : List Int) (l n m : Nat), vs = [x, .int c] /\ Po K H x p l n /\ Sz m c /\ l <= 500 /\ n + m <= 100000000 /\ ∀ z H', Same H H' -> Po K H' z (ng p c) l (n + m) -> Q z H'
theorem Zv {f : Addr} {fd : FuncData} (F : Df K mg "scaled" Pj ["one", "factor"] f fd) (z_tuple : mg "tuple" = none)   : Cal P w K mg base 1 "scaled" ["one", "factor"] (Ew K) := by
  refine F.cal (F.fn.ok Aac (fun vs H Q E h => ?_) (fun cdv A outer s H vs Q E hr h => ?_))
  . obtain ⟨x, c, p, _, _, _, rfl, _⟩ := h
    rfl
  obtain ⟨x, c, p, l, n, m, rfl, ⟨⟨a, rfl, ha⟩, tp, lp, zp⟩, hm, l5, hz, k⟩ := h
  refine S.Bd ⟨_, (S.Ac (S.Cy (S.Aj Lq (S.pv 1) S.Ad (Aq _)) (S.Ae (S.Al (S.Ar S.Ab))) S.Bb)
      (S.Ae (S.Al (S.Ft El rfl z_tuple PyProof.Rows.boot_tuple (S.Aa (S.Jl (ts := ["weight"]) (fs := [(1, "factor")]) rfl (Cq.of (sc := Ag Pj) (N := ["one", "factor"]) rfl rfl (by decide +kernel)) (S.Q0 (S.pv 0)) (fun _ _ _ => (S.Ax (i := 0) (show List.Nodup (["weight", "factor"] : List Str) by decide +kernel) rfl (Or.inl rfl))) (fun _ _ _ => S.Iu) (fun _ _ _ => (S.Ak Cr (S.pv 0) (S.pv 1)))) S.Ab))))), ?_⟩
  contradiction
  have szc : ∀ i, Sz (n + m) (co (ng p c) i) := fun i => by
    rw [O9]
    exact (zp i).mul hm
  by_cases hc : c = 0
  . rw [if_pos hc]
    refine ⟨by decide, fun z hz' => k _ _ (Same.upd hz' _) ⟨⟨z, rfl, ?_⟩, Av _, ?_, szc⟩⟩
    . have e : ng p c = [] := (Av _).ext (.inl rfl) fun i => by
        have := O9 p c i
        rw [hc, Int.mul_zero] at this
        rw [Ay, <- this, hc, ng]
      rw [e]
      exact .of Af
    . have := Hu (p.map (· * c))
      rw [List.length_map] at this
      exact Nat.le_trans this lp
  . rw [if_neg hc]
    refine ⟨⟨_, ha⟩, fun p1 hp1 => Ju (es := p) (inj := V.int) (fun w => .int (w * c)) (Nat.le_trans lp (Nat.le_trans l5 (by decide))) hp1 (Sq ha) ?_ ?_⟩
    . intro e H2 R he s2 hR
      contradiction
      obtain ⟨i, hi, ei⟩ := List.getElem_of_mem he
      have ze := zp i
      rw [Cp hi, ei] at ze
      exact ⟨ze.mulOk hm (by omega), hR _ (Same.refl _)⟩
    . intro H2 s2 h2
      try contradiction
      have e : ng p c = p.map (· * c) := Ql (.of (by
        by_cases hp : p = []
        . left; rw [hp]; rfl
        . right
          have := tp.lead hp
          rw [List.length_map, <- Am, show trim (p.map (· * c)) = ng p c from rfl, O9]
          exact Int.mul_ne_zero this hc))
      refine ⟨p1, _, rfl, .inl ⟨.of h2, fun z hz' => k _ _ (s2.trans (Same.upd hz' _)) ⟨⟨z, rfl, ?_⟩, Av _, ?_, szc⟩⟩⟩
      . rw [e, List.map_map]
        exact .of Af
      . rw [e, List.length_map]
        exact lp
def Nu (K : PySem.W.Frag) : Sp := fun vs H Q _ => ∃ (x y : V) (p q : List Int) (l l' n n' : Nat), vs = [x, y] /\ Po K H x p l n /\ Po K H y q l' n' /\ l <= 500 /\ l' <= 500 /\ n' <= 10000000 /\ ∀ z H', Same H H' -> Po K H' z (ta p (ng q (-1))) (max l l') (max n (n' + 1) + 1) -> Q z H'
theorem Yb {f : Addr} {fd : FuncData} (F : Df K mg "p_minus" Rf ["one", "other"] f fd)   (c_p_plus : Cal P w K mg base 3 "p_plus" ["one", "other"] (Qn K)) (c_scaled : Cal P w K mg base 1 "scaled" ["one", "factor"] (Ew K)) : Cal P w K mg base 4 "p_minus" ["one", "other"] (Nu K) := by
  refine F.cal (F.fn.ok Ym (fun vs H Q E h => ?_) (fun cdv A outer s H vs Q E hr h => ?_))
  . obtain ⟨x, y, p, q, _, _, _, _, rfl, _⟩ := h
    rfl
  obtain ⟨x, y, p, q, l, l', n, n', rfl, hx, hy, l5, l5', hn, k⟩ := h
  refine S.Bd ⟨_, (S.Ae (S.Al (S.Ai c_p_plus (hr.mono (by decide)) (S.Aa (S.pv 0) (S.Aa (S.Ai c_scaled (hr.mono (by decide)) (S.Aa (S.pv 1) (S.Aa (S.Dr Ci S.Ad) S.Ab))) S.Ab))))), ?_⟩
  contradiction
  refine ⟨y, -1, q, l', n', 1, rfl, hy, by unfold Sz; decide, l5', by omega, fun z H1 s1 hz => ?_⟩
  try contradiction
  exact ⟨x, z, p, ng q (-1), l, l', n, n' + 1, rfl, hx.mono s1, hz, l5, l5', trivial, fun z2 H2 s2 h2 => k z2 H2 (s1.trans s2) h2⟩
theorem Agr {q : List Int} {n n' : Nat} (hq : ∀ i, Sz n' (co q i)) : ∀ (p : List Int), (∀ x ∈ p, Sz n x) -> ∀ i, Sz (n + n' + p.length) (mu p (co q) i)
  | [], _, i => by
    have h0 : 0 < 2 ^ (n + n' + ([] : List Int).length) := Nat.pow_pos (by decide)
    exact h0
  | a :: p, h, i => by
    have ih := Agr hq p fun x hx => h x (List.mem_cons_of_mem _ hx)
    have h1 := (h a List.mem_cons_self).mul (hq i)
    have h2 : Sz (n + n' + p.length) (sh (mu p (co q)) i) := by
      cases i with
      | zero =>
        have h0 : 0 < 2 ^ (n + n' + p.length) := Nat.pow_pos (by decide)
        exact h0
      | succ i => exact ih i
    exact (h1.add h2).mono (by simp only [List.length_cons]; omega)
theorem Po.mem {K : PySem.W.Frag} {H : Hp} {v : V} {p : List Int} {l n : Nat} (h : Po K H v p l n) : ∀ x ∈ p, Sz n x := fun x hx => by
  obtain ⟨i, hi, ei⟩ := List.getElem_of_mem hx
  have z := h.2.2.2 i
  rw [Cp hi, ei] at z
  exact z
def Ds (K : PySem.W.Frag) : Sp := fun vs H Q _ => ∃ (x y : V) (p q : List Int) (l l' n n' : Nat), vs = [x, y] /\ Po K H x p l n /\ Po K H y q l' n' /\ l <= 500 /\ l' <= 500 /\ n + n' <= 100000000 /\ ∀ z H', Same H H' -> Po K H' z (tm p q) (l + l') (n + n' + l) -> Q z H'
theorem Y6 {f : Addr} {fd : FuncData} (F : Df K mg "p_times" Rg ["one", "other"] f fd) (z_enumerate : mg "enumerate" = none) (z_tuple : mg "tuple" = none) (z_len : mg "len" = none)   : Cal P w K mg base 1 "p_times" ["one", "other"] (Ds K) := by
  refine F.cal (F.fn.ok Hh (fun vs H Q E h => ?_) (fun cdv A outer s H vs Q E hr h => ?_))
  . obtain ⟨x, y, p, q, _, _, _, _, rfl, _⟩ := h
    rfl
  obtain ⟨x, y, p, q, l, l', n, n', rfl, hx, hy, l5, l5', hn, k⟩ := h
  have mx := hx.mem
  have my := hy.mem
  obtain ⟨⟨a, rfl, ha⟩, tp, lp, zp⟩ := hx
  obtain ⟨⟨b, rfl, hb⟩, tq, lq, zq⟩ := hy
  have res : ∀ (z : Addr) (H' : Hp), Same H H' -> SqT K H' z ((tm p q).map V.int) -> Q (.ref z) H' := fun z H' s hz => by
    refine k _ _ s ⟨⟨z, rfl, hz⟩, Dj _ _, ?_, fun i => ?_⟩
    . by_cases h1 : p = []
      . rw [h1, Bq, Sw]
        exact Nat.zero_le _
      . by_cases h2 : q = []
        . rw [h2, Sw]
          exact Nat.zero_le _
        . have := Ng tp tq h1 h2
          omega
    . rw [Bv]
      exact (Agr zq p mx i).mono (by omega)
  refine S.Bd ⟨_, (S.Ac (S.Cy (S.O6 (S.Ms (S.Aj (Im hr.units) (S.pv 0) (S.Ar S.Ab) (Aq _)) (S.J1 (S.Aj (Im hr.units) (S.pv 1) (S.Ar S.Ab) (Aq _))))) (S.Ae (S.Al (S.Ar S.Ab))) S.Bb)
      (S.Ac (S.Ah (i := 2) Hh.nd rfl (Or.inl rfl) (S.Ak Z9 (S.Ht (S.Aa S.Ad S.Ab)) (S.Ak Ej (S.Ak Cw (S.Dd Aw rfl z_len PySem.boot_len (S.Aa (S.pv 0) S.Ab)) (S.Dd Aw rfl z_len PySem.boot_len (S.Aa (S.pv 1) S.Ab))) S.Ad)))
      (S.Ac (S.Ey PassesOwn.never rfl (S.Ti rfl z_enumerate (S.Aa (S.pv 0) S.Ab)) (S.Fz rfl (S.Bl (S.Ax (i := 3) Hh.nd rfl (Or.inl rfl)) (S.Bl (S.Ax (i := 4) Hh.nd rfl (Or.inl rfl)) S.Ek))) (S.Ae (S.Cy (S.Aj Ry (S.pv 4) S.Ad (Aq _)) (S.Ae (S.Ey PassesOwn.never rfl (S.Ti rfl z_enumerate (S.Aa (S.pv 1) S.Ab)) (S.Fz rfl (S.Bl (S.Ax (i := 5) Hh.nd rfl (Or.inl rfl)) (S.Bl (S.Ax (i := 6) Hh.nd rfl (Or.inl rfl)) S.Ek))) (S.Ae (S.Es (S.Ak Cw (S.Bo Fg (S.pv 2) (S.Ak Cw (S.pv 3) (S.pv 5)) (fun _ _ => rfl)) (S.Ak Cr (S.pv 4) (S.pv 6))) (S.Lz (S.pv 2) (S.Ak Cw (S.pv 3) (S.pv 5)) set_list))))) S.Bb)))
      (S.Ae (S.Al (S.Ft El rfl z_tuple PyProof.Rows.boot_tuple (S.Aa (S.pv 2) S.Ab))))))), ?_⟩
  contradiction
  refine ⟨by decide, fun p1 hp1 => ?_⟩
  have s1 := Same.upd hp1 (.tup [])
  refine Cv (ms := []) (s1.tup ha) (.of Af) ?_
  try contradiction
  by_cases h1 : p = []
  . rw [if_pos h1]
    refine ⟨by decide, fun z hz => res z _ (s1.trans (Same.upd hz _)) ?_⟩
    rw [h1, Bq, Sw]
    exact .of Af
  rw [if_neg h1]
  refine ⟨by decide, fun p2 hp2 => ?_⟩
  have s2 := s1.trans (Same.upd hp2 (.tup []))
  refine Cv (ms := []) (s2.tup hb) (.of Af) ?_
  try contradiction
  by_cases h2 : q = []
  . rw [if_pos h2]
    refine ⟨by decide, fun z hz => res z _ (s2.trans (Same.upd hz _)) ?_⟩
    rw [h2, Sw]
    exact .of Af
  rw [if_neg h2]
  intro p3 hp3
  have s3 := s2.trans (Same.upd hp3 (.lst [V.int 0]))
  have q1 := List.length_pos_iff.mpr h1
  have q2 := List.length_pos_iff.mpr h2
  have sz5 : 1000 <= sizeLine := by decide
  refine ⟨a, _, rfl, .inr (s3.tup ha), b, _, rfl, .inr (s3.tup hb), ?_⟩
  simp only [List.length_map]
  have hN : ((p.length : Int) + (q.length : Int) - 1).toNat = p.length + q.length - 1 := by omega
  refine ⟨p3, _, [V.int 0], rfl, rfl, Af, by omega, by omega, by rw [hN]; simp only [List.length_cons, List.length_nil]; omega, fun l0 hn => ?_⟩
  rw [hN, Nr]
  have hnH : H l0 = none := Same.free s3 hn
  have s4 := s3.trans (Same.upd hn (.lst ((List.replicate (p.length + q.length - 1) (0 : Int)).map V.int)))
  refine ⟨⟨_, s4.tup ha⟩, Yr (es := p) (inj := V.int) (fun pre σ H' => ∃ (o1 o2 o3 o4 : Option V) (ms : List Int), σ = [some (.ref a), some (.ref b), some (.ref l0), o1, o2, o3, o4] /\ Same H H' /\ H' l0 = some (.lst (ms.map V.int)) /\ ms.length = p.length + q.length - 1 /\ ∀ i, co ms i = mu pre (co q) i)
    ⟨_, _, _, _, List.replicate (p.length + q.length - 1) 0, rfl, s4, Af, by rw [List.length_replicate], fun i => ?_⟩ ?_ ?_ ?_⟩
  . show _ = 0
    unfold co
    rw [List.getD_eq_getElem?_getD, List.getElem?_replicate]
    split <;> rfl
  . rintro pre σ H' ⟨o1, o2, o3, o4, ms, rfl, s5, _⟩
    exact s5.tup ha
  . rintro pre e post σ H' p4 he ⟨o1, o2, o3, o4, ms, rfl, s5, hm, hlm, hco⟩ hp4
    refine Ir (.of Af) ?_
    have hlen := congrArg List.length he
    rw [List.length_append, List.length_cons] at hlen
    have ez : Sz n e := mx e (by rw [he]; simp)
    have s6 := s5.trans (Same.upd hp4 (.tup [V.int (pre.length : Nat), V.int e]))
    have hm6 := Same.upd hp4 (.tup [V.int (pre.length : Nat), V.int e]) _ _ hm
    try contradiction
    by_cases hz : e = 0
    . rw [if_pos hz]
      exact ⟨_, _, _, _, ms, rfl, s6, hm6, hlm, fun i => by rw [Mj, hco, hz]; simp⟩
    . rw [if_neg hz]
      refine ⟨⟨_, s6.tup hb⟩, Yr (es := q) (inj := V.int) (fun pre2 σ H2 => ∃ (o3 o4 : Option V) (ms2 : List Int), σ = [some (.ref a), some (.ref b), some (.ref l0), some (.int (pre.length : Nat)), some (.int e), o3, o4] /\ Same H H2 /\ H2 l0 = some (.lst (ms2.map V.int)) /\ ms2.length = p.length + q.length - 1 /\
          ∀ i, co ms2 i = mu pre (co q) i + (if pre.length <= i then e * co pre2 (i - pre.length) else 0)) ⟨_, _, ms, rfl, s6, hm6, hlm, fun i => ?_⟩ ?_ ?_ ?_⟩
      . rw [hco, Ay, Int.mul_zero]
        split <;> simp
      . rintro pre2 σ H2 ⟨o3, o4, ms2, rfl, s7, _⟩
        exact s7.tup hb
      . rintro pre2 f post2 σ H2 p5 he2 ⟨o3, o4, ms2, rfl, s7, hm7, hlm2, hco2⟩ hp5
        refine Ir (.of Af) ?_
        have hlen2 := congrArg List.length he2
        rw [List.length_append, List.length_cons] at hlen2
        have fz : Sz n' f := my f (by rw [he2]; simp)
        have hj : pre.length + pre2.length < ms2.length := by omega
        have s8 := Same.upd hp5 (.tup [V.int (pre2.length : Nat), V.int f])
        have hm8 := s8 _ _ hm7
        simp only [K7, Gp, K4, Lg, Gn, Kz, Dh, Ky, Gq, Fx, z_c, U8, V0, Vw, Ld, Vy, K8, Le, K6, Lb, Et, Vz, Ku, Lk, Ko, Gi, Fw, K5, Lw, Vr, Fp, Ls, Ge, V1, Gz, Lj, Gm, Vu, Ly, K1, Dw, Fl, Gd, Fi, Dz, Fo, Lx, Lf, Ln, Iz, Vx, Cz, Gh, K9, V2, Ks, Gs, Lp, Kv, Gv, Kr, Gf, Fq, Gx, Eb, Lr, Dy, Fv, Gj, Ga, Ea, Kq, Gk, Lh, Gu, Fy, Fj, Du, Gw, Vs, cpσ, List.getElem?_cons_zero, List.getElem?_cons_succ, Option.join_some, List.set_cons_zero, List.set_cons_succ, List.append_nil, decide_eq_true_eq, Bool.not_eq_true', decide_eq_false_iff_not, Bool.not_not, ite_not, Bool.false_eq_true, Bool.true_eq_false, if_false, if_true, if_pos, List.length_cons, List.length_nil, Nat.zero_add, Nat.reduceAdd, Gy, Gg, true_and, and_true, L2.start, List.map_cons, List.map_nil, Bool.not_true, Bool.not_false, Nat.reduceSub, List.replicate_succ, List.replicate_zero, List.cons_append, List.nil_append, <- Int.natCast_add]
        refine Ox (.of hm8) (G9 hj) ?_
        try contradiction
        refine ⟨ez.mulOk fz (by omega), ?_⟩
        refine Wq hm8 (by rw [List.length_map]; exact hj) ?_
        try contradiction
        rw [Jh]
        refine ⟨_, _, ms2.set (pre.length + pre2.length) (ms2[pre.length + pre2.length] + e * f), rfl, ?_, Af, by rw [List.length_set]; exact hlm2, fun i => ?_⟩
        . intro c o hc
          rw [Cm (Bt hc hnH)]
          exact s8 _ _ (s7 _ _ hc)
        . rw [Qe _ _ _ hj, Hy, hco2 i]
          by_cases hi : i = pre.length + pre2.length
          . subst hi
            rw [if_pos rfl, <- Cp hj, hco2, if_pos (by omega), if_pos (by omega), if_pos (by omega), show pre.length + pre2.length - pre.length = pre2.length by omega, Bk (p := pre2) (Nat.le_refl _)]
            omega
          . rw [if_neg hi]
            by_cases hi2 : pre.length <= i
            . rw [if_pos hi2, if_pos hi2, if_neg (by omega)]
            . rw [if_neg hi2, if_neg hi2]
      . rintro σ H2 ⟨o3, o4, ms2, rfl, s7, hm7, hlm2, hco2⟩
        try contradiction
        exact ⟨_, _, _, _, ms2, rfl, s7, hm7, hlm2, fun i => by rw [Mj, hco2]⟩
  . rintro σ H' ⟨o1, o2, o3, o4, ms, rfl, s5, hm, hlm, hco⟩
    try contradiction
    have e : ms = tm p q := by
      have tl := Ng tp tq h1 h2
      refine List.ext_getElem (by omega) fun i g1 g2 => ?_
      rw [<- Cp g1, <- Cp g2, hco, Bv]
    refine ⟨l0, _, rfl, .inl ⟨.of hm, fun z hz => res z _ (s5.trans (Same.upd hz _)) ?_⟩⟩
    rw [<- e]
    exact .of Af
theorem Ake {p : List Int} {l n : Nat} (tp : Tr p) (lp : p.length <= l) (zp : ∀ i, Sz n (co p i)) : ∀ m, (pw p m).length <= m * l + 1 /\ ∀ i, Sz (m * (n + l) + 1) (co (pw p m) i)
  | 0 => ⟨by simp [pw], fun i => by
    rw [pw]
    refine Wm (by omega) (fun x hx => ?_) i
    have e : x = 1 := by simpa using hx
    subst e
    unfold Sz
    rw [Nat.zero_mul]
    decide⟩
  | m + 1 => by
    obtain ⟨h1, h2⟩ := Ake tp lp zp m
    have e1 : (m + 1) * l = m * l + l := Nat.succ_mul _ _
    have e2 : (m + 1) * (n + l) = m * (n + l) + (n + l) := Nat.succ_mul _ _
    refine ⟨?_, fun i => ?_⟩
    . rw [pw]
      by_cases z1 : p = []
      . rw [z1, Bq, Sw]
        exact Nat.zero_le _
      . by_cases z2 : pw p m = []
        . rw [z2, Sw]
          exact Nat.zero_le _
        . have := Ng tp (Abi p m) z1 z2
          omega
    . rw [pw, Bv]
      exact (Agr h2 p (fun x hx => by
        obtain ⟨i, hi, ei⟩ := List.getElem_of_mem hx
        have z := zp i
        rw [Cp hi, ei] at z
        exact z) i).mono (by omega)
def Qd (K : PySem.W.Frag) : Sp := fun vs H Q _ => ∃ (x0 x : V) (m M : Nat) (mi : Int) (p : List Int) (l n : Nat), vs = [x0, x, .int mi, .ref (cA K "p_times")] /\ (mi = (m : Nat) \/ mi < 0 /\ m = 0) /\ (∃ a, x0 = .ref a /\ SqT K H a [V.int 1]) /\ Po K H x p l n /\ m <= M /\ 1 <= M /\ M * l + 1 <= 500 /\ M * (n + l) + 1 <= 1000000 /\ ∀ z H', Same H H' -> Po K H' z (pw p m) (m * l + 1) (m * (n + l) + 1) -> Q z H'
theorem Ws {f : Addr} {fd : FuncData} (F : Df K mg "repeated" Oi ["start", "one", "many", "product"] f fd)  (xm_p_times : mg "p_times" = some (.ref (cA K "p_times"))) (c_p_times : Cal P w K mg base 1 "p_times" ["one", "other"] (Ds K)) : Cal P w K mg base 2 "repeated" ["start", "one", "many", "product"] (Qd K) := by
  refine F.cal (F.fn.ok Ei (fun vs H Q E h => ?_) (fun cdv A outer s H vs Q E hr h => ?_))
  . obtain ⟨x0, x, m, M, mi, p, _, _, rfl, _⟩ := h
    rfl
  obtain ⟨_, x, m, M, mi, p, l, n, rfl, hmi, ⟨p0, rfl, hp0⟩, hx, hm, hM, hl, hn, k⟩ := h
  have hx' := hx
  obtain ⟨_, tp, lp, zp⟩ := hx'
  have bd := Ake tp lp zp
  have sm : ∀ a, a <= M -> a * l + 1 <= 500 /\ a * (n + l) + 1 <= 1000000 := fun a ha => by
    have h1 : a * l <= M * l := Nat.mul_le_mul_right _ ha
    have h2 : a * (n + l) <= M * (n + l) := Nat.mul_le_mul_right _ ha
    omega
  have conv : ∀ (H' : Hp) (z : V) (a b L N : Nat), Po K H' z (tm (pw p a) (pw p b)) L N -> Po K H' z (pw p (a + b)) ((a + b) * l + 1) ((a + b) * (n + l) + 1) := fun H' z a b L N h => by
    rw [Aek] at h
    exact ⟨h.1, Abi _ _, bd (a + b)⟩
  refine S.Bd ⟨_, (S.Ac (S.Ah (i := 4) Ei.nd rfl (Or.inl rfl) (S.pv 0))
      (S.Ac (S.Ah (i := 5) Ei.nd rfl (Or.inl rfl) (S.pv 1))
      (S.Ac (S.Ah (i := 6) Ei.nd rfl (Or.inl rfl) (S.pv 2))
      (S.Ac (S.Hg PassesOwn.never (S.Aj Vk (S.pv 6) S.Ad (Aq _)) (S.Ac (S.Cy (S.Aj Lq (S.Ak Ec (S.pv 6) S.Ad) S.Ad (Aq _)) (S.Ae (S.Ah (i := 4) Ei.nd rfl (Or.inl rfl) (S.Y8 c_p_times xm_p_times (hr.mono (by decide)) (S.pv 3) (S.Aa (S.pv 4) (S.Aa (S.pv 5) S.Ab))))) S.Bb)
      (S.Ac (S.Ah (i := 6) Ei.nd rfl (Or.inl rfl) (S.Ak Er (S.pv 6) S.Ad))
      (S.Ae (S.Cy (S.Aj Vk (S.pv 6) S.Ad (Aq _)) (S.Ae (S.Ah (i := 5) Ei.nd rfl (Or.inl rfl) (S.Y8 c_p_times xm_p_times (hr.mono (by decide)) (S.pv 3) (S.Aa (S.pv 5) (S.Aa (S.pv 5) S.Ab))))) S.Bb)))))
      (S.Ae (S.Al (S.pv 4))))))), ?_⟩
  contradiction
  have s0 := Same.refl H
  have i1 : Po K H (.ref p0) (pw p 0) (0 * l + 1) (0 * (n + l) + 1) := ⟨⟨p0, rfl, hp0⟩, Abi _ _, bd 0⟩
  have i2 : Po K H x (pw p 1) (1 * l + 1) (1 * (n + l) + 1) := ⟨by rw [Ahd tp]; exact hx.1, Abi _ _, bd 1⟩
  rcases hmi with rfl | ⟨hneg, rfl⟩
  case inr =>
    refine Pn (fun σ H' => σ = [some (.ref p0), some x, some (.int mi), some (.ref (cA K "p_times")), some (.ref p0), some x, some (.int mi)] /\ H' = H) (fun _ _ => 0) ⟨rfl, rfl⟩ ?_
    rintro σ H' ⟨rfl, rfl⟩
    contradiction
    rw [if_neg (by omega)]
    exact k _ _ s0 i1
  refine Pn (fun σ H' => ∃ (zp zs : V) (a b t : Nat), σ = [some (.ref p0), some x, some (.int (m : Nat)), some (.ref (cA K "p_times")), some zp, some zs, some (.int (t : Nat))] /\ Same H H' /\ Po K H' zp (pw p a) (a * l + 1) (a * (n + l) + 1) /\ Po K H' zs (pw p b) (b * l + 1) (b * (n + l) + 1) /\ a + b * t = m /\ b <= M)
    (fun σ _ => match σ with | [_, _, _, _, _, _, some (.int t)] => t.toNat | _ => 0) ⟨_, _, 0, 1, m, rfl, s0, i1, i2, by omega, hM⟩ ?_
  rintro σ H' ⟨yp, ys, a, b, t, rfl, s1, ia, ib, hab, hb⟩
  contradiction
  by_cases ht : (0 : Int) < (t : Nat)
  . rw [if_pos ht]
    refine Af6 ?_
    contradiction
    refine ⟨by decide, ?_⟩
    have d2 : ((t : Nat) : Int) / 2 = ((t / 2 : Nat) : Int) := by omega
    have ha : a <= M := by omega
    have step : ∀ (H2 : Hp) (z : V) (a' : Nat), Same H' H2 -> Po K H2 z (pw p a') (a' * l + 1) (a' * (n + l) + 1) -> a' + 2 * b * (t / 2) = m ->
        Agp (t : Nat) 2 /\ (if (0 : Int) < ((t : Nat) : Int) / 2 then Ds K [ys, ys] H2 (fun w H3 => (∃ (zp zs : V) (a b u : Nat), [some (.ref p0), some x, some (.int (m : Nat)), some (.ref (cA K "p_times")), some z, some w, some (.int (((t : Nat) : Int) / 2))] = [some (.ref p0), some x, some (.int (m : Nat)), some (.ref (cA K "p_times")), some zp, some zs, some (.int (u : Nat))] /\ Same H H3 /\ Po K H3 zp (pw p a) (a * l + 1) (a * (n + l) + 1) /\ Po K H3 zs (pw p b) (b * l + 1) (b * (n + l) + 1) /\ a + b * u = m /\ b <= M) /\ (((t : Nat) : Int) / 2).toNat < ((t : Nat) : Int).toNat) E0
          else (∃ (zp zs : V) (a b u : Nat), [some (.ref p0), some x, some (.int (m : Nat)), some (.ref (cA K "p_times")), some z, some ys, some (.int (((t : Nat) : Int) / 2))] = [some (.ref p0), some x, some (.int (m : Nat)), some (.ref (cA K "p_times")), some zp, some zs, some (.int (u : Nat))] /\ Same H H2 /\ Po K H2 zp (pw p a) (a * l + 1) (a * (n + l) + 1) /\ Po K H2 zs (pw p b) (b * l + 1) (b * (n + l) + 1) /\ a + b * u = m /\ b <= M) /\ (((t : Nat) : Int) / 2).toNat < ((t : Nat) : Int).toNat) := fun H2 z a' s2 iz e => by
      rw [d2]
      refine ⟨⟨by decide, by decide⟩, ?_⟩
      by_cases h2 : (0 : Int) < ((t / 2 : Nat) : Int)
      . rw [if_pos h2]
        have hbb : 2 * b <= 2 * b * (t / 2) := Nat.le_mul_of_pos_right _ (by omega)
        have q1 := sm b hb
        refine ⟨ys, ys, _, _, _, _, _, _, rfl, ib.mono s2, ib.mono s2, q1.1, q1.1, by omega, fun w H3 s3 iw => ⟨⟨z, w, a', b + b, t / 2, rfl, (s1.trans s2).trans s3, iz.mono s3, conv _ _ _ _ _ _ iw, ?_, by omega⟩, by omega⟩⟩
        rw [<- Nat.two_mul]
        exact e
      . rw [if_neg h2]
        have t0 : t / 2 = 0 := by omega
        refine ⟨⟨z, ys, a', b, t / 2, rfl, s1.trans s2, iz, ib.mono s2, ?_, hb⟩, by omega⟩
        rw [t0] at e ⊢
        simpa using e
    have e3 : b * t = 2 * b * (t / 2) + b * (t % 2) := by
      have e := Nat.div_add_mod t 2
      calc b * t = b * (2 * (t / 2) + t % 2) := by rw [e]
        _ = 2 * b * (t / 2) + b * (t % 2) := by rw [Nat.mul_add, <- Nat.mul_assoc, Nat.mul_comm b 2]
    have q1 := sm a ha
    have q2 := sm b hb
    by_cases ho : ((t : Nat) : Int) % 2 = 1
    . rw [if_pos ho]
      have o1 : t % 2 = 1 := by omega
      refine ⟨yp, ys, _, _, _, _, _, _, rfl, ia, ib, q1.1, q2.1, by omega, fun w H2 s2 iw => step H2 w (a + b) s2 (conv _ _ _ _ _ _ iw) ?_⟩
      rw [o1, Nat.mul_one] at e3
      omega
    . rw [if_neg ho]
      have o1 : t % 2 = 0 := by omega
      refine step H' yp a (Same.refl _) ia ?_
      rw [o1, Nat.mul_zero] at e3
      omega
  . rw [if_neg ht]
    have t0 : t = 0 := by omega
    subst t0
    have e : a = m := by simpa using hab
    subst e
    exact k _ _ s1 ia
@[irreducible] def BIG : Nat := 600000
theorem Xm : BIG = 600000 := by unfold BIG; rfl
theorem Hi {q : List Int} (hq : q ≠ []) : atI (q.map V.int) (-1) = some (.int (co q (q.length - 1))) := by
  obtain ⟨ini, c, rfl⟩ : ∃ (i : List Int) (x : Int), q = i ++ [x] := ⟨_, _, (List.dropLast_concat_getLast hq).symm⟩
  rw [List.map_append, List.length_append, List.length_singleton, Nat.add_sub_cancel, Hy, if_pos rfl]
  exact Xi _ _
def LdR (K : PySem.W.Frag) (bb : Bool) (p q : List Int) (Q : VK) (H : Hp) : Prop := ∀ (z : Addr) (H' : Hp) (s : Int) (c d : V) (u r : List Int), Same H H' -> SqT K H' z [.int s, c, d] -> Po K H' c u 60 BIG -> Po K H' d r 60 BIG -> 1 <= s -> Sz BIG s -> (bb = false -> s = 1) ->
  (∀ k, s * co p k = mu u (co q) k + co r k) -> r.length < q.length -> Cop s u r -> Q (.ref z) H'
def Ii (K : PySem.W.Frag) : Sp := fun vs H Q E => ∃ (x y : V) (bb : Bool) (p q : List Int) (l l' n n' : Nat), vs = [x, y, .bl bb] /\ Po K H x p l n /\ Po K H y q l' n' /\ l <= 60 /\ l' <= 60 /\ n <= 9000 /\ n' <= 8000 /\ (q = [] -> ∀ H', Same H H' -> E (.ref (cA K "NoPart")) none H') /\ (bb = false -> q ≠ [] -> ¬ Exact p q -> ∀ H', Same H H' -> Q .non H') /\ (q ≠ [] -> LdR K bb p q Q H)
theorem O8 {f : Addr} {fd : FuncData} (F : Df K mg "long_division" Dp ["one", "other", "scaling"] f fd) (z_list : mg "list" = none) (z_range : mg "range" = none) (z_max : mg "max" = none) (z_len : mg "len" = none) (z_abs : mg "abs" = none) (z_enumerate : mg "enumerate" = none) (xk_NoPart : V3 K (cA K "NoPart")) (xm_NoPart : mg "NoPart" = some (.ref (cA K "NoPart"))) (c_poly : Cal P w K mg base 1 "poly" ["weights"] (Ja K)) (c_divisor : Cal P w K mg base 1 "divisor" ["one", "other"] (Kc K)) (c_degree : Cal P w K mg base 1 "degree" ["one"] (Dq K)) : Nq P w K mg base 2 "long_division" ["one", "other", "scaling"] (Ii K) := by
  refine F.calE (F.fn.okE Ba (fun vs H Q E h => ?_) (fun cdv A outer s H vs Q E hr h => ?_))
  . obtain ⟨x, y, bb, p, q, _, _, _, _, rfl, _⟩ := h
    rfl
  obtain ⟨x, y, bb, p, q, l, l', n, n', rfl, hx, hy, h15, h15', hn, hn', k0, kn, k⟩ := h
  have mx := hx.mem
  have my := hy.mem
  obtain ⟨⟨a, rfl, ha⟩, tp, lp, zp⟩ := id hx
  obtain ⟨⟨b, rfl, hb⟩, tq, lq, zq⟩ := id hy
  refine S.Bd ⟨_, (S.Ac (S.Cy (S.Aj (Im hr.units) (S.pv 1) (S.Ar S.Ab) (Aq _)) (S.Ae (S.Em xk_NoPart xm_NoPart (S.Aa S.Qj S.Ab))) S.Bb)
      (S.Ac (S.Ah (i := 3) Ba.nd rfl (Or.inl rfl) S.Ad)
      (S.Ac (S.Ah (i := 4) Ba.nd rfl (Or.inl rfl) (S.Ak Z9 (S.Ht (S.Aa S.Ad S.Ab)) (S.Dd (Vf rfl) rfl z_max PyProof.Rows.boot_max (S.Aa (S.Ak Cw (S.Ak Ej (S.Dd Aw rfl z_len PySem.boot_len (S.Aa (S.pv 0) S.Ab)) (S.Dd Aw rfl z_len PySem.boot_len (S.Aa (S.pv 1) S.Ab))) S.Ad) (S.Aa S.Ad S.Ab)))))
      (S.Ac (S.Ah (i := 5) Ba.nd rfl (Or.inl rfl) (S.Ft Eu rfl z_list PyProof.Rows.boot_list (S.Aa (S.pv 0) S.Ab)))
      (S.Ac (S.Aar (S.Ey PassesOwn.never rfl (S.Mt rfl z_range (S.Aa (S.Ak Ej (S.Dd Aw rfl z_len PySem.boot_len (S.Aa (S.pv 4) S.Ab)) S.Ad) (S.Aa (S.Dr Ci S.Ad) (S.Aa (S.Dr Ci S.Ad) S.Ab)))) (S.Ax (i := 6) Ba.nd rfl (Or.inl rfl)) (S.Ac (S.Ah (i := 7) Ba.nd rfl (Or.inr rfl) (S.Ak Jj (S.Dd Ul rfl z_abs PyProof.Rows.boot_abs (S.Aa (S.Bo Az (S.pv 1) (S.Dr Ci S.Ad) (fun _ _ => rfl)) S.Ab)) (S.Ai c_divisor (hr.mono (by decide)) (S.Aa (S.Bo Fg (S.pv 5) (S.Ak Cw (S.pv 6) (S.Ai c_degree (hr.mono (by decide)) (S.Aa (S.pv 1) S.Ab))) (fun _ _ => rfl)) (S.Aa (S.Bo Az (S.pv 1) (S.Dr Ci S.Ad) (fun _ _ => rfl)) S.Ab)))))
      (S.Ac (S.Cy (S.Aj Ry (S.pv 7) S.Ad (Aq _)) (S.Ac (S.Cy (S.J2 (S.Il (S.pv 2))) (S.Ae (S.Al S.Sy)) S.Bb)
      (S.Ac (S.Ah (i := 3) Ba.nd rfl (Or.inl rfl) (S.Ak Cr (S.pv 3) (S.pv 7)))
      (S.Ac (S.Om (ts := ["weight"]) (fs := [(7, "missing")]) rfl (Cq.of (sc := Ag Dp) (N := ["one", "other", "scaling", "scale", "quotient", "rest", "place", "missing", "factor", "further", "weight"]) rfl rfl (by decide +kernel)) (S.Oo (S.pv 4)) (fun _ _ _ => (S.Ax (i := 0) (show List.Nodup (["weight", "missing"] : List Str) by decide +kernel) rfl (Or.inl rfl))) (fun _ _ _ => S.Iu) (fun _ _ _ => (S.Ak Cr (S.pv 0) (S.pv 1))) (S.Ax (i := 4) Ba.nd rfl (Or.inl rfl)))
      (S.Ae (S.Om (ts := ["weight"]) (fs := [(7, "missing")]) rfl (Cq.of (sc := Ag Dp) (N := ["one", "other", "scaling", "scale", "quotient", "rest", "place", "missing", "factor", "further", "weight"]) rfl rfl (by decide +kernel)) (S.Oo (S.pv 5)) (fun _ _ _ => (S.Ax (i := 0) (show List.Nodup (["weight", "missing"] : List Str) by decide +kernel) rfl (Or.inl rfl))) (fun _ _ _ => S.Iu) (fun _ _ _ => (S.Ak Cr (S.pv 0) (S.pv 1))) (S.Ax (i := 5) Ba.nd rfl (Or.inl rfl))))))) S.Bb)
      (S.Ac (S.Ah (i := 8) Ba.nd rfl (Or.inl rfl) (S.Ak Jj (S.Bo Fg (S.pv 5) (S.Ak Cw (S.pv 6) (S.Ai c_degree (hr.mono (by decide)) (S.Aa (S.pv 1) S.Ab))) (fun _ _ => rfl)) (S.Bo Az (S.pv 1) (S.Dr Ci S.Ad) (fun _ _ => rfl))))
      (S.Ac (S.Es (S.pv 8) (S.Lz (S.pv 4) (S.pv 6) set_list))
      (S.Ae (S.Cy (S.Aj Ry (S.pv 8) S.Ad (Aq _)) (S.Ae (S.Ey PassesOwn.never rfl (S.Ti rfl z_enumerate (S.Aa (S.pv 1) S.Ab)) (S.Fz rfl (S.Bl (S.Ax (i := 9) Ba.nd rfl (Or.inl rfl)) (S.Bl (S.Ax (i := 10) Ba.nd rfl (Or.inl rfl)) S.Ek))) (S.Ae (S.Es (S.Ak Ej (S.Bo Fg (S.pv 5) (S.Ak Cw (S.pv 6) (S.pv 9)) (fun _ _ => rfl)) (S.Ak Cr (S.pv 8) (S.pv 10))) (S.Lz (S.pv 5) (S.Ak Cw (S.pv 6) (S.pv 9)) set_list))))) S.Bb))))))))
      (S.Ae (S.Al (S.Ar (S.Aa (S.pv 3) (S.Aa (S.Ai c_poly (hr.mono (by decide)) (S.Aa (S.pv 4) S.Ab)) (S.Aa (S.Ai c_poly (hr.mono (by decide)) (S.Aa (S.pv 5) S.Ab)) S.Ab))))))))))), ?_⟩
  refine Bc (fun σ' H' => Same H H' /\ q ≠ [] /\ σ' = [some (.ref a), some (.ref b), some (.bl bb), none, none, none, none, none, none, none, none]) (fun N hN => ?_) ?_
  . contradiction
    refine ⟨by decide, fun e0 he0 => ?_⟩
    have se := Same.upd he0 (.tup [])
    refine Cv (ms := []) (se.tup hb) (.of Af) ?_
    try contradiction
    split
    . rename_i h
      exact k0 h _ se
    . rename_i h
      exact hN _ _ ⟨se, h, rfl⟩
  rintro σ H1 ⟨s1, hq, rfl⟩
  replace k := k hq
  replace kn := fun h => kn h hq
  have hql : 0 < q.length := List.length_pos_iff.mpr hq
  have sz5 : 1000 <= sizeLine := by decide
  obtain ⟨L, hL⟩ : ∃ L, L = p.length + 1 - q.length := ⟨_, rfl⟩
  have l0 : co q (q.length - 1) ≠ 0 := tq.lead hq
  have eL : (if (0 : Int) > (p.length : Int) - (q.length : Int) + 1 then (0 : Int) else (p.length : Int) - (q.length : Int) + 1) = (L : Int) := by
    subst hL
    split <;> omega
  refine Bc (fun σ' H' => H' = H1 /\ σ' = [some (.ref a), some (.ref b), some (.bl bb), some (.int 1), none, none, none, none, none, none, none]) (fun N hN => ?_) ?_
  . contradiction
    exact hN _ _ ⟨rfl, rfl⟩
  rintro σ H2 ⟨rfl, rfl⟩
  refine Bc (fun σ' H' => Same H H' /\ ∃ cq, σ' = [some (.ref a), some (.ref b), some (.bl bb), some (.int 1), some (.ref cq), none, none, none, none, none, none] /\ H cq = none /\ H' cq = some (.lst ((List.replicate L (0 : Int)).map V.int))) (fun N hN => ?_) ?_
  . contradiction
    intro p3 hp3
    have s3 := s1.trans (Same.upd hp3 (.lst [V.int 0]))
    refine ⟨a, _, rfl, .inr (s3.tup ha), b, _, rfl, .inr (s3.tup hb), ?_⟩
    simp only [K7, Gp, K4, Lg, Gn, Kz, Dh, Ky, Gq, Fx, z_c, U8, V0, Vw, Ld, Vy, K8, Le, K6, Lb, Et, Vz, Ku, Lk, Ko, Gi, Fw, K5, Lw, Vr, Fp, Ls, Ge, V1, Gz, Lj, Gm, Vu, Ly, K1, Dw, Fl, Gd, Fi, Dz, Fo, Lx, Lf, Ln, Iz, Vx, Cz, Gh, K9, V2, Ks, Gs, Lp, Kv, Gv, Kr, Gf, Fq, Gx, Eb, Lr, Dy, Fv, Gj, Ga, Ea, Kq, Gk, Lh, Gu, Fy, Fj, Du, Gw, Vs, cpσ, List.getElem?_cons_zero, List.getElem?_cons_succ, Option.join_some, List.set_cons_zero, List.set_cons_succ, List.append_nil, decide_eq_true_eq, Bool.not_eq_true', decide_eq_false_iff_not, Bool.not_not, ite_not, Bool.false_eq_true, Bool.true_eq_false, if_false, if_true, if_pos, List.length_cons, List.length_nil, Nat.zero_add, Nat.reduceAdd, Gy, Gg, true_and, and_true, L2.start, List.map_cons, List.map_nil, Bool.not_true, Bool.not_false, Nat.reduceSub, List.replicate_succ, List.replicate_zero, List.cons_append, List.nil_append, List.length_map, eL]
    refine ⟨p3, _, [V.int 0], rfl, rfl, Af, by omega, by omega, by simp only [Int.toNat_natCast, List.length_cons, List.length_nil]; omega, fun cq hcq => ?_⟩
    rw [Int.toNat_natCast, Nr]
    exact hN _ _ ⟨s3.trans (Same.upd hcq _), cq, rfl, Same.free s3 hcq, Af⟩
  rintro σ H3 ⟨s3, cq, rfl, nq, hcq⟩
  refine Bc (fun σ' H' => Same H H' /\ ∃ cq cr, σ' = [some (.ref a), some (.ref b), some (.bl bb), some (.int 1), some (.ref cq), some (.ref cr), none, none, none, none, none] /\ H cq = none /\ H cr = none /\ cq ≠ cr /\ H' cq = some (.lst ((List.replicate L (0 : Int)).map V.int)) /\ H' cr = some (.lst (p.map V.int))) (fun N hN => ?_) ?_
  . contradiction
    refine ⟨a, _, rfl, .inr (s3.tup ha), fun cr hcr => hN _ _ ⟨s3.trans (Same.upd hcr _), cq, cr, rfl, nq, Same.free s3 hcr, ?_, Same.upd hcr _ _ _ hcq, Af⟩⟩
    exact Bt hcq hcr
  clear hcq nq s3
  rintro σ H4 ⟨s4, cq, cr, rfl, nq, nr, ne, hcq, hcr⟩
  obtain ⟨B, hB⟩ : ∃ B : Nat -> Nat, B = fun i => n + (n' + 1) * i := ⟨_, rfl⟩
  have B1 : ∀ i, B (i + 1) = B i + n' + 1 := fun i => by rw [hB]; show n + (n' + 1) * (i + 1) = n + (n' + 1) * i + n' + 1; rw [Nat.mul_succ]; omega
  have Bn : ∀ i, i <= 60 -> B i <= 500000 := fun i hi => by
    rw [hB]
    have : (n' + 1) * i <= (n' + 1) * 60 := Nat.mul_le_mul_left _ hi
    show n + (n' + 1) * i <= 500000
    omega
  have B0 : B 0 = n := by rw [hB]; rfl
  have hL15 : L <= 60 := by omega
  refine Bc (fun σ' H' => Same H H' /\ ∃ (sc : Int) (cq cr : Addr) (qs rs : List Int) (o6 o7 o8 o9 o10 : Option V), σ' = [some (.ref a), some (.ref b), some (.bl bb), some (.int sc), some (.ref cq), some (.ref cr), o6, o7, o8, o9, o10] /\ H' cq = some (.lst (qs.map V.int)) /\ H' cr = some (.lst (rs.map V.int)) /\ qs.length = L /\ rs.length = p.length /\ DV p q sc qs rs 0 /\ (bb = false -> sc = 1) /\ Sz (B L + 1) sc /\ (∀ x ∈ qs, Sz (B L + 1) x) /\ ∀ x ∈ rs, Sz (B L + 1) x) (fun N hN => ?_) ?_
  . rw [Iz]
    contradiction
    refine ⟨cq, _, rfl, .inl (.of hcq), ?_⟩
    try contradiction
    rw [List.length_map, List.length_replicate]
    refine ⟨by omega, ?_⟩
    refine Ai1 L (fun i => .int ((L : Int) - 1 - (i : Nat))) (fun i σ' H' => Same H H' /\ ∃ (sc : Int) (cq cr : Addr) (qs rs : List Int) (o6 o7 o8 o9 o10 : Option V), σ' = [some (.ref a), some (.ref b), some (.bl bb), some (.int sc), some (.ref cq), some (.ref cr), o6, o7, o8, o9, o10] /\ H cq = none /\ H cr = none /\ cq ≠ cr /\ H' cq = some (.lst (qs.map V.int)) /\ H' cr = some (.lst (rs.map V.int)) /\ qs.length = L /\ rs.length = p.length /\ DV p q sc qs rs (L - i) /\ (bb = false -> sc = 1) /\ Sz (B i + 1) sc /\ (∀ x ∈ qs, Sz (B i + 1) x) /\ ∀ x ∈ rs, Sz (B i + 1) x) ?_ ?_ ?_ ?_
    . refine ⟨s4, 1, cq, cr, _, _, _, _, _, _, _, rfl, nq, nr, ne, hcq, hcr, List.length_replicate, rfl, by rw [hL, Nat.sub_zero]; exact DV.start p q hq, fun _ => rfl, ?_, fun x hx => ?_, fun x hx => (mx x hx).mono (by rw [B0]; omega)⟩
      . exact (show Sz 1 (1 : Int) by unfold Sz; decide).mono (by omega)
      . rw [List.eq_of_mem_replicate hx]
        exact Sz0 (by omega)
    . intro i σ' H' _
      have e : ((L : Int) - 1 - -1).toNat = L := by omega
      rw [e]
      exact Qc
    . clear hcq hcr nq nr ne s4
      rintro i σ' H5 hi ⟨s5, sc, cq, cr, qs, rs, o6, o7, o8, o9, o10, rfl, nq, nr, ne, hcq, hcr, hlq, hlr, dv, b1, zs, zqs, zrs⟩
      obtain ⟨j, hj⟩ : ∃ j : Nat, j + 1 = L - i := ⟨L - i - 1, by omega⟩
      have pj : (L : Int) - 1 - (i : Nat) = (j : Int) := by omega
      rw [<- hj] at dv
      rw [Dh, pj]
      simp only [List.set_cons_succ, List.set_cons_zero]
      obtain ⟨d, hd⟩ : ∃ d, d + 1 = q.length := ⟨q.length - 1, by omega⟩
      have hd' : q.length - 1 = d := by omega
      have hjd : j + d < rs.length := by omega
      have hjq : j < qs.length := by omega
      rw [hd'] at l0
      have ix : (j : Int) + ((q.length : Int) - 1) = ((j + d : Nat) : Int) := by omega
      have hlast := Hi hq
      rw [hd'] at hlast
      have er : rs[j + d] = co rs (j + d) := (Cp hjd).symm
      have zl : Sz n' (co q d) := zq d
      have Bi := Bn i (by omega)
      obtain ⟨m, fc, em, ef, m1, emf, cp, mle, fle⟩ := Aj5 (co rs (j + d)) (co q d) l0
      have g0 : 0 < Int.gcd (co rs (j + d)) (co q d) := Int.gcd_pos_of_ne_zero_right _ l0
      have gz : Sz n' ((Int.gcd (co rs (j + d)) (co q d) : Nat) : Int) := zl.of_abs (by
        have := Nat.le_of_dvd (by omega) (Int.gcd_dvd_natAbs_right (co rs (j + d)) (co q d))
        omega)
      have zr : Sz (B i + 1) (co rs (j + d)) := by rw [<- er]; exact zrs _ (List.getElem_mem hjd)
      have zm : Sz n' m := zl.of_abs mle
      have zf : Sz (B i + 1) fc := zr.of_abs fle
      have lg := gz.log2 (by omega) (by omega)
      have ll := zl.log2 l0 (by omega)
      refine Bc (fun σ' H' => H' = H5 /\ σ' = [some (.ref a), some (.ref b), some (.bl bb), some (.int sc), some (.ref cq), some (.ref cr), some (.int j), some (.int m), o8, o9, o10]) (fun N hN => ?_) ?_
      . contradiction
        refine Ce (s5.tup hb) hlast ?_
        simp only [K7, Gp, K4, Lg, Gn, Kz, Dh, Ky, Gq, Fx, z_c, U8, V0, Vw, Ld, Vy, K8, Le, K6, Lb, Et, Vz, Ku, Lk, Ko, Gi, Fw, K5, Lw, Vr, Fp, Ls, Ge, V1, Gz, Lj, Gm, Vu, Ly, K1, Dw, Fl, Gd, Fi, Dz, Fo, Lx, Lf, Ln, Iz, Vx, Cz, Gh, K9, V2, Ks, Gs, Lp, Kv, Gv, Kr, Gf, Fq, Gx, Eb, Lr, Dy, Fv, Gj, Ga, Ea, Kq, Gk, Lh, Gu, Fy, Fj, Du, Gw, Vs, cpσ, List.getElem?_cons_zero, List.getElem?_cons_succ, Option.join_some, List.set_cons_zero, List.set_cons_succ, List.append_nil, decide_eq_true_eq, Bool.not_eq_true', decide_eq_false_iff_not, Bool.not_not, ite_not, Bool.false_eq_true, Bool.true_eq_false, if_false, if_true, if_pos, List.length_cons, List.length_nil, Nat.zero_add, Nat.reduceAdd, Gy, Gg, true_and, and_true, L2.start, List.map_cons, List.map_nil, Bool.not_true, Bool.not_false, Nat.reduceSub, List.replicate_succ, List.replicate_zero, List.cons_append, List.nil_append, abs_eq]
        refine Cd hy s5 ?_
        simp only [K7, Gp, K4, Lg, Gn, Kz, Dh, Ky, Gq, Fx, z_c, U8, V0, Vw, Ld, Vy, K8, Le, K6, Lb, Et, Vz, Ku, Lk, Ko, Gi, Fw, K5, Lw, Vr, Fp, Ls, Ge, V1, Gz, Lj, Gm, Vu, Ly, K1, Dw, Fl, Gd, Fi, Dz, Fo, Lx, Lf, Ln, Iz, Vx, Cz, Gh, K9, V2, Ks, Gs, Lp, Kv, Gv, Kr, Gf, Fq, Gx, Eb, Lr, Dy, Fv, Gj, Ga, Ea, Kq, Gk, Lh, Gu, Fy, Fj, Du, Gw, Vs, cpσ, List.getElem?_cons_zero, List.getElem?_cons_succ, Option.join_some, List.set_cons_zero, List.set_cons_succ, List.append_nil, decide_eq_true_eq, Bool.not_eq_true', decide_eq_false_iff_not, Bool.not_not, ite_not, Bool.false_eq_true, Bool.true_eq_false, if_false, if_true, if_pos, List.length_cons, List.length_nil, Nat.zero_add, Nat.reduceAdd, Gy, Gg, true_and, and_true, L2.start, List.map_cons, List.map_nil, Bool.not_true, Bool.not_false, Nat.reduceSub, List.replicate_succ, List.replicate_zero, List.cons_append, List.nil_append, ix]
        refine Ox (.of hcr) (G9 hjd) ?_
        try contradiction
        refine Ce (s5.tup hb) hlast ?_
        try contradiction
        rw [er]
        refine ⟨_, _, rfl, ?_⟩
        try contradiction
        refine ⟨⟨by omega, lg⟩, ?_⟩
        rw [em]
        exact hN _ _ ⟨rfl, rfl⟩
      rintro σ' H6 ⟨rfl, rfl⟩
      refine Bc (fun σ' H' => Same H H' /\ (bb = false -> m = 1) /\ ∃ cq cr, σ' = [some (.ref a), some (.ref b), some (.bl bb), some (.int (sc * m)), some (.ref cq), some (.ref cr), some (.int j), some (.int m), o8, o9, o10] /\ H cq = none /\ H cr = none /\ cq ≠ cr /\ H' cq = some (.lst ((qs.map (· * m)).map V.int)) /\ H' cr = some (.lst ((rs.map (· * m)).map V.int))) (fun N hN => ?_) ?_
      . contradiction
        split
        . rename_i h1
          have one : ∀ x : List Int, x.map (· * m) = x := fun x => by
            rw [h1]
            simp
          refine hN _ _ ⟨s5, fun _ => h1, cq, cr, by rw [h1, Int.mul_one], nq, nr, ne, by rw [one]; exact hcq, by rw [one]; exact hcr⟩
        . rename_i h1
          cases bb with
          | false =>
            try contradiction
            refine kn rfl (fun ex => h1 ?_) _ s5
            have b1' := b1 rfl
            subst b1'
            have dd := dv.exact_top hq (by rw [hd']; exact l0) ex
            rw [hd'] at dd
            rw [<- em]
            exact Acr l0 dd
          | true =>
            try contradiction
            refine ⟨zs.mulOk zm (by omega), ⟨_, .of hcq⟩, fun p1 hp1 => Ju (es := qs) (inj := V.int) (fun x => .int (x * m)) (by omega) hp1 (Uh (.of hcq)) ?_ ?_⟩
            . intro e H7 R he s7 hR
              contradiction
              exact ⟨(zqs e he).mulOk zm (by omega), hR _ (Same.refl _)⟩
            intro H7 s7 h7
            try contradiction
            have hcr7 := s7 _ _ hcr
            refine ⟨⟨_, .of hcr7⟩, fun p2 hp2 => Ju (es := rs) (inj := V.int) (fun x => .int (x * m)) (by omega) hp2 (Uh (.of hcr7)) ?_ ?_⟩
            . intro e H8 R he s8 hR
              contradiction
              exact ⟨(zrs e he).mulOk zm (by omega), hR _ (Same.refl _)⟩
            intro H8 s8 h8
            try contradiction
            refine hN _ _ ⟨(s5.trans s7).trans s8, (fun h => nomatch h), p1, p2, rfl, Same.free s5 hp1, Same.free (s5.trans s7) hp2, Bt h7 hp2, by rw [List.map_map]; exact s8 _ _ h7, by rw [List.map_map]; exact h8⟩
      clear hcq hcr nq nr ne s5
      rintro σ' H6 ⟨s5, bm, cq, cr, rfl, nq, nr, ne, hcq, hcr⟩
      have hjd' : j + d < (rs.map (· * m)).length := by rw [List.length_map]; exact hjd
      refine Bc (fun σ' H' => H' = H6 /\ σ' = [some (.ref a), some (.ref b), some (.bl bb), some (.int (sc * m)), some (.ref cq), some (.ref cr), some (.int j), some (.int m), some (.int fc), o9, o10]) (fun N hN => ?_) ?_
      . contradiction
        refine Cd hy s5 ?_
        simp only [K7, Gp, K4, Lg, Gn, Kz, Dh, Ky, Gq, Fx, z_c, U8, V0, Vw, Ld, Vy, K8, Le, K6, Lb, Et, Vz, Ku, Lk, Ko, Gi, Fw, K5, Lw, Vr, Fp, Ls, Ge, V1, Gz, Lj, Gm, Vu, Ly, K1, Dw, Fl, Gd, Fi, Dz, Fo, Lx, Lf, Ln, Iz, Vx, Cz, Gh, K9, V2, Ks, Gs, Lp, Kv, Gv, Kr, Gf, Fq, Gx, Eb, Lr, Dy, Fv, Gj, Ga, Ea, Kq, Gk, Lh, Gu, Fy, Fj, Du, Gw, Vs, cpσ, List.getElem?_cons_zero, List.getElem?_cons_succ, Option.join_some, List.set_cons_zero, List.set_cons_succ, List.append_nil, decide_eq_true_eq, Bool.not_eq_true', decide_eq_false_iff_not, Bool.not_not, ite_not, Bool.false_eq_true, Bool.true_eq_false, if_false, if_true, if_pos, List.length_cons, List.length_nil, Nat.zero_add, Nat.reduceAdd, Gy, Gg, true_and, and_true, L2.start, List.map_cons, List.map_nil, Bool.not_true, Bool.not_false, Nat.reduceSub, List.replicate_succ, List.replicate_zero, List.cons_append, List.nil_append, ix]
        refine Ox (.of hcr) (G9 hjd') ?_
        try contradiction
        refine Ce (s5.tup hb) hlast ?_
        try contradiction
        rw [List.getElem_map, er]
        refine ⟨⟨l0, ll⟩, ?_⟩
        rw [ef]
        exact hN _ _ ⟨rfl, rfl⟩
      rintro σ' H7 ⟨rfl, rfl⟩
      refine Bc (fun σ' H' => Same H H' /\ σ' = [some (.ref a), some (.ref b), some (.bl bb), some (.int (sc * m)), some (.ref cq), some (.ref cr), some (.int j), some (.int m), some (.int fc), o9, o10] /\ H' cq = some (.lst (((qs.map (· * m)).set j fc).map V.int)) /\ H' cr = some (.lst ((rs.map (· * m)).map V.int))) (fun N hN => ?_) ?_
      . contradiction
        refine Wq hcq (by rw [List.length_map, List.length_map]; exact hjq) ?_
        rw [Jh]
        exact hN _ _ ⟨s5.put nq, rfl, Af, by rw [Cm (Ne.symm ne)]; exact hcr⟩
      clear hcq hcr s5
      rintro σ' H8 ⟨s5, rfl, hcq, hcr⟩
      have zB1 := B1 i
      have fin : ∀ (rs' : List Int) (o9 o10 : Option V) (H9 : Hp), Same H H9 -> H9 cq = some (.lst (((qs.map (· * m)).set j fc).map V.int)) -> H9 cr = some (.lst (rs'.map V.int)) -> rs'.length = rs.length -> (∀ k, co rs' k = co rs k * m - (if j <= k then fc * co q (k - j) else 0)) ->
          Same H H9 /\ ∃ (sc' : Int) (cq' cr' : Addr) (qs' rs'' : List Int) (u6 u7 u8 u9 u10 : Option V), [some (V.ref a), some (.ref b), some (.bl bb), some (.int (sc * m)), some (.ref cq), some (.ref cr), some (.int j), some (.int m), some (.int fc), o9, o10] = [some (.ref a), some (.ref b), some (.bl bb), some (.int sc'), some (.ref cq'), some (.ref cr'), u6, u7, u8, u9, u10] /\ H cq' = none /\ H cr' = none /\ cq' ≠ cr' /\ H9 cq' = some (.lst (qs'.map V.int)) /\ H9 cr' = some (.lst (rs''.map V.int)) /\ qs'.length = L /\ rs''.length = p.length /\ DV p q sc' qs' rs'' (L - (i + 1)) /\ (bb = false -> sc' = 1) /\ Sz (B (i + 1) + 1) sc' /\ (∀ x ∈ qs', Sz (B (i + 1) + 1) x) /\ ∀ x ∈ rs'', Sz (B (i + 1) + 1) x := by
        intro rs' o9 o10 H9 s9 h1 h2 hl2 hco
        refine ⟨s9, sc * m, cq, cr, _, rs', _, _, _, _, _, rfl, nq, nr, ne, h1, h2, by rw [List.length_set, List.length_map]; exact hlq, by omega, ?_, fun hb0 => by rw [b1 hb0, bm hb0]; rfl, (zs.mul zm).mono (by omega), fun x hx => ?_, fun x hx => ?_⟩
        . rw [show L - (i + 1) = j by omega]
          exact dv.step hq m1 hjq (by rw [hd']; exact emf) cp hco
        . rcases List.mem_or_eq_of_mem_set hx with hx | hx
          . obtain ⟨y, hy', rfl⟩ := List.mem_map.mp hx
            exact ((zqs y hy').mul zm).mono (by omega)
          . rw [hx]; exact zf.mono (by omega)
        . obtain ⟨t, ht, et⟩ := List.getElem_of_mem hx
          have z := hco t
          rw [Cp ht, et] at z
          rw [z]
          have za : Sz (B i + 1 + n') (co rs t * m) := by
            by_cases h : t < rs.length
            . rw [Cp h]; exact (zrs _ (List.getElem_mem h)).mul zm
            . rw [Bk (by omega), Int.zero_mul]; exact Sz0 (by omega)
          have zb : Sz (B i + 1 + n') (if j <= t then fc * co q (t - j) else 0) := by
            split
            . exact zf.mul (zq _)
            . exact Sz0 (by omega)
          exact (za.sub zb).mono (by omega)
      contradiction
      split
      . rename_i h0
        refine fin (rs.map (· * m)) _ _ _ s5 hcq hcr (by rw [List.length_map]) fun t => ?_
        rw [Tf, h0]
        split <;> simp
      . refine ⟨⟨_, s5.tup hb⟩, Yr (es := q) (inj := V.int) (fun pre σ' H' => Same H H' /\ ∃ (u9 u10 : Option V) (ms : List Int), σ' = [some (.ref a), some (.ref b), some (.bl bb), some (.int (sc * m)), some (.ref cq), some (.ref cr), some (.int j), some (.int m), some (.int fc), u9, u10] /\ H' cq = some (.lst (((qs.map (· * m)).set j fc).map V.int)) /\ H' cr = some (.lst (ms.map V.int)) /\ ms.length = rs.length /\ ∀ t, co ms t = co rs t * m - (if j <= t then fc * co pre (t - j) else 0)) ⟨s5, _, _, rs.map (· * m), rfl, hcq, hcr, by rw [List.length_map], fun t => by rw [Tf]; split <;> simp [Ay]⟩ ?_ ?_ ?_⟩
        . rintro pre σ' H' ⟨s9, _⟩
          exact s9.tup hb
        . rintro pre e post σ' H9 p1 he ⟨s9, u9, u10, ms, rfl, h1, h2, hlm, hco⟩ hp1
          refine Ir (.of Af) ?_
          have hlen := congrArg List.length he
          rw [List.length_append, List.length_cons] at hlen
          have hjj : j + pre.length < ms.length := by omega
          have s10 := Same.upd hp1 (.tup [V.int (pre.length : Nat), V.int e])
          have h1' := s10 _ _ h1
          have h2' := s10 _ _ h2
          have ze : Sz n' e := my e (by rw [he]; simp)
          simp only [K7, Gp, K4, Lg, Gn, Kz, Dh, Ky, Gq, Fx, z_c, U8, V0, Vw, Ld, Vy, K8, Le, K6, Lb, Et, Vz, Ku, Lk, Ko, Gi, Fw, K5, Lw, Vr, Fp, Ls, Ge, V1, Gz, Lj, Gm, Vu, Ly, K1, Dw, Fl, Gd, Fi, Dz, Fo, Lx, Lf, Ln, Iz, Vx, Cz, Gh, K9, V2, Ks, Gs, Lp, Kv, Gv, Kr, Gf, Fq, Gx, Eb, Lr, Dy, Fv, Gj, Ga, Ea, Kq, Gk, Lh, Gu, Fy, Fj, Du, Gw, Vs, cpσ, List.getElem?_cons_zero, List.getElem?_cons_succ, Option.join_some, List.set_cons_zero, List.set_cons_succ, List.append_nil, decide_eq_true_eq, Bool.not_eq_true', decide_eq_false_iff_not, Bool.not_not, ite_not, Bool.false_eq_true, Bool.true_eq_false, if_false, if_true, if_pos, List.length_cons, List.length_nil, Nat.zero_add, Nat.reduceAdd, Gy, Gg, true_and, and_true, L2.start, List.map_cons, List.map_nil, Bool.not_true, Bool.not_false, Nat.reduceSub, List.replicate_succ, List.replicate_zero, List.cons_append, List.nil_append, <- Int.natCast_add]
          refine Ox (.of h2') (G9 hjj) ?_
          try contradiction
          refine ⟨zf.mulOk ze (by omega), ?_⟩
          refine Wq h2' (by rw [List.length_map]; exact hjj) ?_
          try contradiction
          rw [Jh]
          refine ⟨(s9.trans s10).put nr, _, _, ms.set (j + pre.length) (ms[j + pre.length] - fc * e), rfl, by rw [Cm ne]; exact h1', Af, by rw [List.length_set]; exact hlm, fun t => ?_⟩
          rw [Qe _ _ _ hjj, Hy, hco t]
          by_cases ht : t = j + pre.length
          . subst ht
            rw [if_pos rfl, if_pos (by omega), if_pos (by omega), <- Cp hjj, hco, if_pos (by omega), show j + pre.length - j = pre.length by omega, Bk (p := pre) (Nat.le_refl _)]
            omega
          . rw [if_neg ht]
            by_cases hjt : j <= t
            . rw [if_pos hjt, if_pos hjt, if_neg (by omega)]
            . rw [if_neg hjt, if_neg hjt]
        . rintro σ' H9 ⟨s9, u9, u10, ms, rfl, h1, h2, hlm, hco⟩
          exact fin ms u9 u10 H9 s9 h1 h2 hlm hco
    . rintro σ' H5 ⟨s5, sc, cq, cr, qs, rs, o6, o7, o8, o9, o10, rfl, nq, nr, ne, hcq, hcr, hlq, hlr, dv, b1, zs, zqs, zrs⟩
      rw [Nat.sub_self] at dv
      exact hN _ _ ⟨s5, sc, cq, cr, qs, rs, o6, o7, o8, o9, o10, rfl, hcq, hcr, hlq, hlr, dv, b1, zs, zqs, zrs⟩
  rintro σ H5 ⟨s5, sc, cq, cr, qs, rs, o6, o7, o8, o9, o10, rfl, hcq, hcr, hlq, hlr, dv, b1, zs, zqs, zrs⟩
  have BL := Bn L hL15
  have bigE := Xm
  contradiction
  refine ⟨cq, qs, rfl, .inl (.of hcq), by omega, fun z1 H6 s6 h6 => ?_⟩
  try contradiction
  refine ⟨cr, rs, rfl, .inl (.of (s6 _ _ hcr)), by omega, fun z2 H7 s7 h7 => ?_⟩
  try contradiction
  refine ⟨by decide, fun z hz => ?_⟩
  have s8 := Same.upd hz (.tup [V.int sc, V.ref z1, V.ref z2])
  have csz : ∀ (x : List Int), (∀ y ∈ x, Sz (B L + 1) y) -> ∀ t, Sz BIG (co (trim x) t) := fun x hx t => by
    rw [Am]
    by_cases h : t < x.length
    . rw [Cp h]; exact (hx _ (List.getElem_mem h)).mono (by omega)
    . rw [Bk (by omega)]; exact Sz0 (by omega)
  have t1 := Hu qs
  have t2 := Hu rs
  refine k z _ sc (.ref z1) (.ref z2) (trim qs) (trim rs) (((s5.trans s6).trans s7).trans s8) (.of Af) ⟨⟨z1, rfl, s8.tup (s7.tup h6)⟩, Av _, by omega, csz qs zqs⟩ ⟨⟨z2, rfl, s8.tup h7⟩, Av _, by omega, csz rs zrs⟩ dv.pos (zs.mono (by omega)) b1 (fun t => ?_) ?_ ?_
  . rw [dv.eq, Bm (co q) (trim qs) qs fun i => Am qs i, Am]
  . have : (trim rs).length <= q.length - 1 := by
      have h := (Av rs).len (q := rs.take (q.length - 1)) fun t => by
        rw [Am, Ie]
        split
        . rfl
        . exact dv.top t (by omega)
      rw [List.length_take] at h
      omega
    omega
  . intro e h1 h2 h3
    exact dv.cop e h1 (fun t => by rw [<- Am]; exact h2 t) fun t => by rw [<- Am]; exact h3 t
theorem Abe : ∀ (p r : List Int), gl (p ++ r) = Int.gcd (gl p : Nat) (gl r : Nat)
  | [], r => by rw [List.nil_append, gl]; simp
  | a :: p, r => by rw [List.cons_append, gl, Abe p r, gl, Int.gcd_assoc]
theorem Agu (p : List Int) (e : Int) : gl (p ++ [e]) = Int.gcd (gl p : Nat) e := by
  rw [Abe, gl, gl]
  simp [Int.gcd]
def Ako (K : PySem.W.Frag) : Sp := fun vs H Q _ => ∃ (a : Addr) (ns : List Int), vs = [.ref a] /\ SqT K H a (ns.map V.int) /\ Q (.int (gl ns : Nat)) H
def Hf (K : PySem.W.Frag) : Sp := Ako K
theorem Uk {f : Addr} {fd : FuncData} (F : Df K mg "divisor_of" J3 ["some"] f fd)   (c_divisor : Cal P w K mg base 1 "divisor" ["one", "other"] (Kc K)) : Cal P w K mg base 2 "divisor_of" ["some"] (Hf K) := by
  refine F.cal (F.fn.ok G8 (fun vs H Q E h => ?_) (fun cdv A outer s H vs Q E hr h => ?_))
  . obtain ⟨a, ns, rfl, _⟩ := h
    rfl
  obtain ⟨a, ns, rfl, hS, q⟩ := h
  refine S.Bd ⟨_, (S.Ac (S.Ah (i := 1) G8.nd rfl (Or.inl rfl) S.Ad)
      (S.Ac (S.Ey PassesOwn.never rfl (S.Q0 (S.pv 0)) (S.Ax (i := 2) G8.nd rfl (Or.inl rfl)) (S.Ac (S.Ah (i := 1) G8.nd rfl (Or.inl rfl) (S.Ai c_divisor (hr.mono (by decide)) (S.Aa (S.pv 1) (S.Aa (S.pv 2) S.Ab))))
      (S.Ae (S.Cy (S.Aj Lq (S.pv 1) S.Ad (Aq _)) (S.Ae (S.Al (S.pv 1))) S.Bb))))
      (S.Ae (S.Al (S.pv 1))))), ?_⟩
  contradiction
  refine ⟨⟨_, hS⟩, Ado (es := ns) (inj := V.int) (fun pre σ H' => H' = H /\ ∃ o, σ = [some (.ref a), some (.int (gl pre : Nat)), o]) ⟨rfl, _, rfl⟩ ?_ ?_ ?_⟩
  . rintro pre σ H' ⟨rfl, _⟩
    exact Adm hS
  . rintro pre e post σ H' he ⟨rfl, o, rfl⟩
    contradiction
    refine ⟨_, _, rfl, ?_⟩
    rw [<- Agu]
    contradiction
    split
    . rename_i h1
      have h1' : gl (pre ++ [e]) = 1 := by omega
      have e2 : gl ns = gl (pre ++ [e]) := by
        rw [he, <- List.singleton_append, <- List.append_assoc, Abe, h1']
        simp
      rw [<- e2]
      exact q
    . exact ⟨_, rfl⟩
  . rintro σ H' ⟨rfl, o, rfl⟩
    contradiction
    exact q
def S6 (K : PySem.W.Frag) : Sp := Ako K
theorem Y5 {f : Addr} {fd : FuncData} (F : Df K mg "content" Rj ["one"] f fd)   (c_divisor_of : Cal P w K mg base 2 "divisor_of" ["some"] (Hf K)) : Cal P w K mg base 3 "content" ["one"] (S6 K) := by
  refine F.cal (F.fn.ok Ys (fun vs H Q E h => ?_) (fun cdv A outer s H vs Q E hr h => ?_))
  . obtain ⟨a, ns, rfl, _⟩ := h
    rfl
  obtain ⟨a, ns, rfl, hS, q⟩ := h
  refine S.Bd ⟨_, (S.Ae (S.Al (S.Ai c_divisor_of (hr.mono (by decide)) (S.Aa (S.pv 0) S.Ab)))), ?_⟩
  contradiction
  exact ⟨a, ns, rfl, hS, q⟩
def Aak (K : PySem.W.Frag) : Sp := fun vs H Q _ => ∃ (a : Addr) (p : List Int), vs = [.ref a] /\ SqT K H a (p.map V.int) /\ ∀ H', Same H H' -> Q (.int (un p)) H'
theorem Ag0 {f : Addr} {fd : FuncData} (F : Df K mg "unit" Abw ["one"] f fd)   (c_content : Cal P w K mg base 3 "content" ["one"] (S6 K)) : Cal P w K mg base 4 "unit" ["one"] (Aak K) := by
  refine F.cal (F.fn.ok Ags (fun vs H Q E h => ?_) (fun cdv A outer s H vs Q E hr h => ?_))
  . obtain ⟨a, p, rfl, _⟩ := h
    rfl
  obtain ⟨a, p, rfl, hS, k⟩ := h
  refine S.Bd ⟨_, (S.Ac (S.Cy (S.O6 (S.Vg (S.Aj (Vl hr.units) (S.pv 0) (S.Ar S.Ab) (Aq _)) (S.Px (S.Aj Tt (S.Bo Az (S.pv 0) (S.Dr Ci S.Ad) (fun _ _ => rfl)) S.Ad (Aq _))))) (S.Ae (S.Al (S.Dr Ci (S.Ai c_content (hr.mono (by decide)) (S.Aa (S.pv 0) S.Ab))))) S.Bb)
      (S.Ae (S.Al (S.Ai c_content (hr.mono (by decide)) (S.Aa (S.pv 0) S.Ab))))), ?_⟩
  contradiction
  refine ⟨by decide, fun e0 he0 => ?_⟩
  have se := Same.upd he0 (.tup [])
  refine Cv (ms := []) (se.tup hS) (.of Af) ?_
  by_cases h0 : p = []
  . subst h0
    try contradiction
    exact ⟨a, [], rfl, se.tup hS, k _ se⟩
  . rw [decide_eq_false h0]
    try contradiction
    refine Ce (se.tup hS) (Hi h0) ?_
    try contradiction
    split
    . rename_i hl
      refine ⟨a, p, rfl, se.tup hS, ?_⟩
      try contradiction
      have : un p = -((gl p : Nat) : Int) := if_pos hl
      rw [<- this]
      exact k _ se
    . rename_i hl
      refine ⟨a, p, rfl, se.tup hS, ?_⟩
      try contradiction
      have : un p = ((gl p : Nat) : Int) := if_neg hl
      rw [<- this]
      exact k _ se
def Ij (K : PySem.W.Frag) : Sp := fun vs H Q _ => ∃ (a : Addr) (p : List Int) (d : Int), vs = [.ref a, .int d] /\ SqT K H a (p.map V.int) /\ p.length <= 1000 /\ (p ≠ [] -> d ≠ 0 /\ Sz 8000 d) /\ ∀ z H', Same H H' -> SqT K H' z ((p.map fun x => x.fdiv d).map V.int) -> Q (.ref z) H'
theorem Abg {f : Addr} {fd : FuncData} (F : Df K mg "shrunk" Pg ["one", "number"] f fd) (z_tuple : mg "tuple" = none)   : Cal P w K mg base 1 "shrunk" ["one", "number"] (Ij K) := by
  refine F.cal (F.fn.ok Abh (fun vs H Q E h => ?_) (fun cdv A outer s H vs Q E hr h => ?_))
  . obtain ⟨a, p, d, rfl, _⟩ := h
    rfl
  obtain ⟨a, p, d, rfl, hS, hl, hd, k⟩ := h
  refine S.Bd ⟨_, (S.Ae (S.Al (S.Ft El rfl z_tuple PyProof.Rows.boot_tuple (S.Aa (S.Jl (ts := ["weight"]) (fs := [(1, "number")]) rfl (Cq.of (sc := Ag Pg) (N := ["one", "number"]) rfl rfl (by decide +kernel)) (S.Q0 (S.pv 0)) (fun _ _ _ => (S.Ax (i := 0) (show List.Nodup (["weight", "number"] : List Str) by decide +kernel) rfl (Or.inl rfl))) (fun _ _ _ => S.Iu) (fun _ _ _ => (S.Ak Jj (S.pv 0) (S.pv 1)))) S.Ab)))), ?_⟩
  contradiction
  refine ⟨⟨_, hS⟩, fun p1 hp1 => Ju (es := p) (inj := V.int) (fun x => .int (x.fdiv d)) (Nat.le_trans hl (by decide)) hp1 (Sq hS) ?_ ?_⟩
  . intro e H2 R he s2 hR
    have := hd (List.ne_nil_of_mem he)
    contradiction
    exact ⟨⟨this.1, this.2.log2 this.1 (by decide)⟩, hR _ (Same.refl _)⟩
  intro H2 s2 h2
  try contradiction
  have em : p.map (fun x => V.int (x.fdiv d)) = (p.map fun x => x.fdiv d).map V.int := by rw [List.map_map]; rfl
  rw [em] at h2
  exact ⟨p1, _, rfl, .inl ⟨.of h2, fun z hz => k z _ (s2.trans (Same.upd hz _)) (.of Af)⟩⟩
def Tj (K : PySem.W.Frag) : Sp := fun vs H Q _ => ∃ (x : V) (p : List Int) (l n : Nat), vs = [x] /\ Po K H x p l n /\ l <= 100 /\ n <= 8000 /\ ∀ z H', Same H H' -> Po K H' z (pln p) l n -> Q z H'
theorem Ajp {p : List Int} {n : Nat} (hp : Tr p) (h : p ≠ []) (z : Sz n (co p (p.length - 1))) : Sz n (un p) := z.of_abs (Nat.le_of_dvd (Int.natAbs_pos.mpr (hp.lead h)) (Int.natAbs_dvd_natAbs.mpr (Aew p _)))
theorem Aio {p : List Int} {n : Nat} (hp : Tr p) (z : ∀ i, Sz n (co p i)) (i : Nat) : Sz n (co (pln p) i) := by
  by_cases h : p = []
  . subst h; exact z i
  . refine (z i).of_abs ?_
    have e := Ma hp h i
    by_cases h0 : co p i = 0
    . have : co (pln p) i = 0 := by
        rw [h0] at e
        exact (Int.mul_eq_zero.mp e).resolve_left (T5 hp h)
      rw [this]
      exact Nat.zero_le _
    . exact Nat.le_of_dvd (Int.natAbs_pos.mpr h0) (Int.natAbs_dvd_natAbs.mpr ⟨un p, by rw [Int.mul_comm]; exact e.symm⟩)
theorem Adg {f : Addr} {fd : FuncData} (F : Df K mg "plain" Wi ["one"] f fd)   (c_shrunk : Cal P w K mg base 1 "shrunk" ["one", "number"] (Ij K)) (c_unit : Cal P w K mg base 4 "unit" ["one"] (Aak K)) : Cal P w K mg base 5 "plain" ["one"] (Tj K) := by
  refine F.cal (F.fn.ok Adq (fun vs H Q E h => ?_) (fun cdv A outer s H vs Q E hr h => ?_))
  . obtain ⟨x, p, _, _, rfl, _⟩ := h
    rfl
  obtain ⟨x, p, l, n, rfl, ⟨⟨a, rfl, ha⟩, tp, lp, zp⟩, hl, hn, k⟩ := h
  refine S.Bd ⟨_, (S.Ae (S.Al (S.Ai c_shrunk (hr.mono (by decide)) (S.Aa (S.pv 0) (S.Aa (S.Ai c_unit (hr.mono (by decide)) (S.Aa (S.pv 0) S.Ab)) S.Ab))))), ?_⟩
  contradiction
  refine ⟨a, p, rfl, ha, fun H1 s1 => ?_⟩
  try contradiction
  refine ⟨a, p, un p, rfl, s1.tup ha, by omega, fun h0 => ⟨T5 tp h0, (Ajp tp h0 (zp _)).mono hn⟩, fun z H2 s2 h2 => k _ _ (s1.trans s2) ⟨⟨z, rfl, h2⟩, Mf tp, by rw [Nx]; exact lp, Aio tp zp⟩⟩
theorem Afq {H H1 : Hp} {Q : VK} {E : XK} {x : V} {p : List Int} {l n : Nat} (hx : Po K H1 x p l n) (s1 : Same H1 H) (hl : l <= 100) (hn : n <= 8000) (h : ∀ z H', Same H H' -> Po K H' z (pln p) l n -> Q z H') : Tj K [x] H Q E := ⟨x, p, l, n, rfl, hx.mono s1, hl, hn, h⟩
theorem at0 {α : Type} (x : α) (r : List α) : atI (x :: r) 0 = some x := Jz (j := 0) rfl
theorem at1 {α : Type} (x y : α) (r : List α) : atI (x :: y :: r) 1 = some y := Jz (j := 1) rfl
theorem at2 {α : Type} (x y z : α) (r : List α) : atI (x :: y :: z :: r) 2 = some z := Jz (j := 2) rfl
def WpR (K : PySem.W.Frag) (p q : List Int) (Q : VK) (H : Hp) : Prop := (¬ Exact p q -> ∀ H', Same H H' -> Q .non H') /\ ∀ z H' u, Same H H' -> Po K H' z u 60 BIG -> (∀ k, co p k = mu u (co q) k) -> Q z H'
def Mg (K : PySem.W.Frag) : Sp := fun vs H Q E => ∃ (x y : V) (p q : List Int) (l l' n n' : Nat), vs = [x, y] /\ Po K H x p l n /\ Po K H y q l' n' /\ l <= 60 /\ l' <= 60 /\ n <= 9000 /\ n' <= 8000 /\ (q = [] -> ∀ H', Same H H' -> E (.ref (cA K "NoPart")) none H') /\ (q ≠ [] -> WpR K p q Q H)
theorem T9 {f : Addr} {fd : FuncData} (F : Df K mg "whole_part" J8 ["one", "other"] f fd)   (ce_long_division : Nq P w K mg base 2 "long_division" ["one", "other", "scaling"] (Ii K)) : Nq P w K mg base 3 "whole_part" ["one", "other"] (Mg K) := by
  refine F.calE (F.fn.okE M4 (fun vs H Q E h => ?_) (fun cdv A outer s H vs Q E hr h => ?_))
  . obtain ⟨x, y, p, q, _, _, _, _, rfl, _⟩ := h
    rfl
  obtain ⟨x, y, p, q, l, l', n, n', rfl, hx, hy, h1, h2, h3, h4, k0, k⟩ := h
  refine S.Bd ⟨_, (S.Ac (S.Ah (i := 2) M4.nd rfl (Or.inl rfl) (S.Dk ce_long_division (hr.mono (by decide)) (S.Aa (S.pv 0) (S.Aa (S.pv 1) (S.Aa S.Li S.Ab)))))
      (S.Ac (S.Cy (S.O6 (S.Ms (S.Aj Ahh (S.pv 2) S.Sy (Aq _)) (S.J1 (S.Aj (Vl hr.units) (S.Bo Az (S.pv 2) S.Ad (fun _ _ => rfl)) (S.Ar S.Ab) (Aq _))))) (S.Ae (S.Al S.Sy)) S.Bb)
      (S.Ae (S.Al (S.Bo Az (S.pv 2) S.Ad (fun _ _ => rfl)))))), ?_⟩
  contradiction
  refine ⟨x, y, false, p, q, l, l', n, n', rfl, hx, hy, h1, h2, h3, h4, k0, fun _ hq nex H1 s1 => ?_, fun hq z H1 sc c d u r s1 hz iu ir sc1 _ one heq lr cop => ?_⟩
  . try contradiction
    exact (k hq).1 nex _ s1
  . have one' := one rfl
    subst one'
    try contradiction
    rw [if_neg (show ¬ V.ref z = V.non from nofun)]
    refine Ce hz (at2 _ _ _ _) ?_
    try contradiction
    refine ⟨by decide, fun e0 he0 => ?_⟩
    have se := Same.upd he0 (.tup [])
    obtain ⟨⟨rd, rfl, hrd⟩, tr, _⟩ := id (ir.mono se)
    refine Cv (ms := []) hrd (.of Af) ?_
    by_cases h0 : r = []
    . rw [decide_eq_true h0]
      try contradiction
      refine Ce (se.tup hz) (at1 _ _ _) ?_
      try contradiction
      exact (k hq).2 _ _ u (s1.trans se) (iu.mono se) fun t => by
        have := heq t
        rw [h0, Ay] at this
        omega
    . rw [decide_eq_false h0]
      try contradiction
      exact (k hq).1 (fun ex => h0 (Acx hq (hy.2.1.lead hq) heq sc1 tr lr cop ex).2) _ (s1.trans se)
def md (p : List Int) (m : Int) : List Int := trim (p.map (· % m))
theorem Yx (p : List Int) (m : Int) (i : Nat) : co (md p m) i = co p i % m := by
  rw [md, Am]
  by_cases h : i < p.length
  . rw [Cp (by simpa using h), Cp h, List.getElem_map]
  . rw [Bk (by simpa using h), Bk (by omega), Int.zero_emod]
theorem Aiv (p : List Int) (m : Int) : Tr (md p m) := Av _
theorem Aeb (p : List Int) (m : Int) : (md p m).length <= p.length := by
  have := Hu (p.map (· % m))
  rw [List.length_map] at this
  exact this
theorem Ahq {k : Nat} {m : Int} (hm : 0 < m) (hz : Sz k m) (x : Int) : Sz k (x % m) := by
  have h0 := Int.emod_nonneg x (Int.ne_of_gt hm)
  have h1 := Int.emod_lt_of_pos x hm
  generalize x % m = y at *
  exact hz.of_abs (by omega)
def Ez (K : PySem.W.Frag) : Sp := fun vs H Q _ => ∃ (x : V) (m : Int) (p : List Int) (l n k : Nat), vs = [x, .int m] /\ Po K H x p l n /\ l <= 500 /\ 0 < m /\ Sz k m /\ ∀ z H', Same H H' -> Po K H' z (md p m) l k -> Q z H'
theorem Vm {f : Addr} {fd : FuncData} (F : Df K mg "by_number" Jd ["one", "m"] f fd)   (c_poly : Cal P w K mg base 1 "poly" ["weights"] (Ja K)) : Cal P w K mg base 2 "by_number" ["one", "m"] (Ez K) := by
  refine F.cal (F.fn.ok Ve (fun vs H Q E h => ?_) (fun cdv A outer s H vs Q E hr h => ?_))
  . obtain ⟨x, m, p, _, _, _, rfl, _⟩ := h
    rfl
  obtain ⟨x, m, p, l, n, k, rfl, ⟨⟨a, rfl, ha⟩, tp, lp, zp⟩, hl, hm, hk, q⟩ := h
  refine S.Bd ⟨_, (S.Ae (S.Al (S.Ai c_poly (hr.mono (by decide)) (S.Aa (S.Jl (ts := ["weight"]) (fs := [(1, "m")]) rfl (Cq.of (sc := Ag Jd) (N := ["one", "m"]) rfl rfl (by decide +kernel)) (S.Q0 (S.pv 0)) (fun _ _ _ => (S.Ax (i := 0) (show List.Nodup (["weight", "m"] : List Str) by decide +kernel) rfl (Or.inl rfl))) (fun _ _ _ => S.Iu) (fun _ _ _ => (S.Ak Ec (S.pv 0) (S.pv 1)))) S.Ab)))), ?_⟩
  contradiction
  refine ⟨⟨_, ha⟩, fun p1 hp1 => Ju (es := p) (inj := V.int) (fun e => .int (e % m)) (Nat.le_trans (Nat.le_trans lp hl) (by decide)) hp1 (Sq ha) ?_ ?_⟩
  . intro e H2 R he s2 hR
    contradiction
    exact ⟨hm, hR _ (Same.refl _)⟩
  intro H2 s2 h2
  try contradiction
  have em : p.map (fun e => V.int (e % m)) = (p.map (· % m)).map V.int := by rw [List.map_map]; rfl
  rw [em] at h2
  refine Ab8 (.of h2) (by rw [List.length_map]; omega) fun z H3 s3 h3 => q _ _ (s2.trans s3) ⟨⟨z, rfl, h3⟩, Av _, Nat.le_trans (Aeb p m) lp, fun i => ?_⟩
  rw [Yx]
  exact Ahq hm hk _
theorem Qx {H H1 : Hp} {Q : VK} {E : XK} {x : V} {m : Int} {p : List Int} {l n k : Nat} (hx : Po K H1 x p l n) (s1 : Same H1 H) (hl : l <= 500) (hm : 0 < m) (hk : Sz k m) (h : ∀ z H', Same H H' -> Po K H' z (md p m) l k -> Q z H') : Ez K [x, .int m] H Q E := ⟨x, m, p, l, n, k, rfl, hx.mono s1, hl, hm, hk, h⟩
theorem Z5 (g l : Int) : Int.gcd l (g - g / l * l) = Int.gcd g l := by
  rw [Int.gcd_sub_mul_right_right, Int.gcd_comm]
def Ag8 (m g l x y : Int) : Prop := ∃ A B : Nat, ((x = (A : Nat) /\ y = -((B : Nat) : Int)) \/ (x = -((A : Nat) : Int) /\ y = (B : Nat))) /\ (B : Int) * g + (A : Int) * l = m
theorem Ag8.next {m g l x y : Int} (h : Ag8 m g l x y) (hg : 0 <= g) (hl : 0 < l) : Ag8 m l (g - g / l * l) y (x - g / l * y) := by
  obtain ⟨A, B, h, e⟩ := h
  have q0 : 0 <= g / l := Int.ediv_nonneg hg (Int.le_of_lt hl)
  obtain ⟨q, hq⟩ : ∃ q : Nat, g / l = q := ⟨(g / l).toNat, by omega⟩
  rw [hq]
  refine ⟨B, A + q * B, ?_, ?_⟩
  . rcases h with ⟨rfl, rfl⟩ | ⟨rfl, rfl⟩
    . refine .inr ⟨rfl, ?_⟩
      push_cast
      rw [Int.mul_neg]
      omega
    . refine .inl ⟨rfl, ?_⟩
      push_cast
      omega
  . push_cast
    rw [<- e]
    grind
theorem Ag8.here {m g l x y : Int} (h : Ag8 m g l x y) (hg : 0 < g) (hl : 0 <= l) : y.natAbs <= m.natAbs := by
  obtain ⟨A, B, h, e⟩ := h
  have h1 : (B : Int) * 1 <= (B : Int) * g := Int.mul_le_mul_of_nonneg_left (by omega) (by omega)
  have h2 : (0 : Int) <= (A : Int) * l := Int.mul_nonneg (by omega) hl
  rcases h with ⟨_, rfl⟩ | ⟨_, rfl⟩ <;> omega
def Hz (K : PySem.W.Frag) : Sp := fun vs H Q E => ∃ (a m : Int) (k : Nat), vs = [.int a, .int m] /\ 1 < m /\ Sz k m /\ k <= 8000 /\ (Int.gcd a m ≠ 1 -> E (.ref (cA K "NoPart")) none H) /\ (Int.gcd a m = 1 -> ∀ r, 0 <= r -> r < m -> r * a % m = 1 -> Q (.int r) H)
def M7 (K : PySem.W.Frag) : Sp := fun vs H Q _ => ∃ (a m : Int) (k : Nat), vs = [.int a, .int m] /\ 1 < m /\ Sz k m /\ k <= 8000 /\ Int.gcd a m = 1 /\ (∀ r, 0 <= r -> r < m -> r * a % m = 1 -> Q (.int r) H)
theorem Qp (K : PySem.W.Frag) : ∀ vs H Q E, M7 K vs H Q E -> Hz K vs H Q E0 := by
  rintro vs H Q E ⟨a, m, k, rfl, hm, hk, h8, hg, c⟩
  exact ⟨a, m, k, rfl, hm, hk, h8, fun h => (h hg).elim, fun _ => c⟩
theorem S9 {f : Addr} {fd : FuncData} (F : Df K mg "inverse_by" Js ["number", "m"] f fd)  (xk_NoPart : V3 K (cA K "NoPart")) (xm_NoPart : mg "NoPart" = some (.ref (cA K "NoPart")))  : Nq P w K mg base 1 "inverse_by" ["number", "m"] (Hz K) := by
  refine F.calE (F.fn.okE Cu (fun vs H Q E h => ?_) (fun cdv A outer s H vs Q E hr h => ?_))
  . obtain ⟨a, m, k, rfl, _⟩ := h
    rfl
  obtain ⟨a, m, k, rfl, hm, hk, h8, kE, kQ⟩ := h
  refine S.Bd ⟨_, (S.Ac (S.Ah (i := 2) Cu.nd rfl (Or.inl rfl) (S.pv 1))
      (S.Ac (S.Ah (i := 3) Cu.nd rfl (Or.inl rfl) (S.Ak Ec (S.pv 0) (S.pv 1)))
      (S.Ac (S.Ah (i := 4) Cu.nd rfl (Or.inl rfl) S.Ad)
      (S.Ac (S.Ah (i := 5) Cu.nd rfl (Or.inl rfl) S.Ad)
      (S.Ac (S.Aar (S.Hg PassesOwn.never (S.Aj Ry (S.pv 3) S.Ad (Aq _)) (S.Ac (S.Ah (i := 6) Cu.nd rfl (Or.inl rfl) (S.Ak Er (S.pv 2) (S.pv 3)))
      (S.Ac (S.Nf (i := 2) (j := 3) rfl Cu.nd rfl rfl (by decide) rfl rfl (S.Aa (S.pv 3) (S.Aa (S.Ak Ej (S.pv 2) (S.Ak Cr (S.pv 6) (S.pv 3))) S.Ab)) rfl)
      (S.Ae (S.Nf (i := 4) (j := 5) rfl Cu.nd rfl rfl (by decide) rfl rfl (S.Aa (S.pv 5) (S.Aa (S.Ak Ej (S.pv 4) (S.Ak Cr (S.pv 6) (S.pv 5))) S.Ab)) rfl))))))
      (S.Ac (S.Cy (S.Aj Ry (S.pv 2) S.Ad (Aq _)) (S.Ae (S.Em xk_NoPart xm_NoPart (S.Aa S.Qj S.Ab))) S.Bb)
      (S.Ae (S.Al (S.Ak Ec (S.pv 4) (S.pv 1)))))))))), ?_⟩
  contradiction
  have m0 := Int.emod_nonneg a (by omega : m ≠ 0)
  have m1 := Int.emod_lt_of_pos a (by omega : 0 < m)
  refine ⟨by omega, ?_⟩
  refine Pn (fun σ H' => H' = H /\ ∃ (g l x y : Int) (o : Option V), σ = [some (.int a), some (.int m), some (.int g), some (.int l), some (.int x), some (.int y), o] /\ 0 < g /\ g <= m /\ 0 <= l /\ l <= m /\ Int.gcd g l = Int.gcd a m /\ m ∣ x * a - g /\ m ∣ y * a - l /\ Ag8 m g l x y)
    (fun σ _ => match σ with | [_, _, _, some (.int l), _, _, _] => l.toNat | _ => 0) ⟨rfl, m, a % m, 0, 1, _, rfl, by omega, Int.le_refl _, m0, by omega, ?_, ⟨-1, by omega⟩, ⟨a / m, ?_⟩, ⟨0, 1, .inr ⟨rfl, rfl⟩, by simp⟩⟩ ?_
  . have e : a % m = a - a / m * m := by
      have := Int.mul_ediv_add_emod a m
      rw [Int.mul_comm] at this
      omega
    rw [e]
    exact Z5 a m
  . have := Int.mul_ediv_add_emod a m
    omega
  rintro σ H' ⟨rfl, g, l, x, y, o, rfl, g0, gm, l0, lm, hg, hx, hy, hS⟩
  contradiction
  by_cases hl : l = 0
  . rw [if_pos hl]
    subst hl
    have eg : ((Int.gcd a m : Nat) : Int) = g := by
      rw [<- hg, Int.gcd_zero_right]
      omega
    try contradiction
    by_cases h1 : g = 1
    . rw [if_pos h1]
      subst h1
      try contradiction
      refine ⟨by omega, kQ (by omega) _ (Int.emod_nonneg _ (by omega)) (Int.emod_lt_of_pos _ (by omega)) ?_⟩
      obtain ⟨c, hc⟩ := hx
      have e : x % m * a = 1 + m * (c - x / m * a) := by
        have := Int.mul_ediv_add_emod x m
        have e2 : x % m = x - m * (x / m) := by omega
        rw [e2]
        grind
      rw [e, Int.add_mul_emod_self_left]
      exact Int.emod_eq_of_lt (by decide) hm
    . rw [if_neg h1]
      try contradiction
      exact kE (by omega)
  . rw [if_neg hl]
    refine Af6 ?_
    try contradiction
    have lp : 0 < l := by omega
    have q0 : 0 <= g / l := Int.ediv_nonneg (by omega) l0
    have q1 : g / l <= g := Int.ediv_le_self _ (by omega)
    have zl : Sz k l := hk.of_abs (by omega)
    have zq : Sz k (g / l) := hk.of_abs (by omega)
    have zy : Sz k y := hk.of_abs (hS.here g0 l0)
    have e1 : g - g / l * l = g % l := by
      have := Int.mul_ediv_add_emod g l
      rw [Int.mul_comm] at this
      omega
    have r0 := Int.emod_nonneg g hl
    have r1 := Int.emod_lt_of_pos g lp
    refine ⟨⟨lp, zl.log2 hl (by omega)⟩, zq.mulOk zl (by omega), zq.mulOk zy (by omega), ⟨_, _, _, _, _, rfl, lp, lm, by omega, by omega, (Z5 g l).trans hg, hy, ?_, hS.next (by omega) lp⟩, by omega⟩
    obtain ⟨c, hc⟩ := hx
    obtain ⟨d, hd⟩ := hy
    refine ⟨c - g / l * d, ?_⟩
    have ex : x * a = m * c + g := by omega
    have ey : y * a = m * d + l := by omega
    rw [Int.sub_mul, Int.mul_assoc, ex, ey]
    grind
def MpR (K : PySem.W.Frag) (m : Int) (p q : List Int) (k : Nat) (Q : VK) (H : Hp) : Prop := ∀ (z : Addr) (H' : Hp) (c d : V) (u r : List Int), Same H H' -> SqT K H' z [c, d] -> Po K H' c u p.length k -> Po K H' d r p.length k ->
  (∀ i, m ∣ co p i - (mu u (co q) i + co r i)) -> r.length < q.length -> (∀ i, 0 <= co u i /\ co u i < m) -> (∀ i, 0 <= co r i /\ co r i < m) -> Q (.ref z) H'
def Ov (K : PySem.W.Frag) : Sp := fun vs H Q E => ∃ (x y : V) (m : Int) (p q : List Int) (l l' n n' k : Nat), vs = [x, y, .int m] /\ Po K H x p l n /\ Po K H y q l' n' /\ l <= 100 /\ l' <= 100 /\ n' <= 100000 /\ 1 < m /\ Sz k m /\ k <= 8000 /\ (q = [] \/ Int.gcd (co q (q.length - 1)) m ≠ 1 -> ∀ H', Same H H' -> E (.ref (cA K "NoPart")) none H') /\ (q ≠ [] -> Int.gcd (co q (q.length - 1)) m = 1 -> MpR K m p q k Q H)
def Qf (K : PySem.W.Frag) : Sp := fun vs H Q _ => ∃ (x y : V) (m : Int) (p q : List Int) (l l' n n' k : Nat), vs = [x, y, .int m] /\ Po K H x p l n /\ Po K H y q l' n' /\ l <= 100 /\ l' <= 100 /\ n' <= 100000 /\ 1 < m /\ Sz k m /\ k <= 8000 /\ q ≠ [] /\ Int.gcd (co q (q.length - 1)) m = 1 /\ MpR K m p q k Q H
theorem T4 (K : PySem.W.Frag) : ∀ vs H Q E, Qf K vs H Q E -> Ov K vs H Q E0 := by
  rintro vs H Q E ⟨x, y, m, p, q, l, l', n, n', k, rfl, hx, hy, h1, h2, h4, hm, hk, h8, hq, hg, c⟩
  exact ⟨x, y, m, p, q, l, l', n, n', k, rfl, hx, hy, h1, h2, h4, hm, hk, h8, fun z => by
    rcases z with z | z
    . exact (hq z).elim
    . exact (z hg).elim, fun _ _ => c⟩
theorem Wn {f : Addr} {fd : FuncData} (F : Df K mg "m_parted" Oq ["one", "other", "m"] f fd) (z_list : mg "list" = none) (z_range : mg "range" = none) (z_max : mg "max" = none) (z_len : mg "len" = none) (z_enumerate : mg "enumerate" = none) (xk_NoPart : V3 K (cA K "NoPart")) (xm_NoPart : mg "NoPart" = some (.ref (cA K "NoPart"))) (ce_inverse_by : Nq P w K mg base 1 "inverse_by" ["number", "m"] (Hz K)) (c_by_number : Cal P w K mg base 2 "by_number" ["one", "m"] (Ez K)) (c_poly : Cal P w K mg base 1 "poly" ["weights"] (Ja K)) (c_degree : Cal P w K mg base 1 "degree" ["one"] (Dq K)) : Nq P w K mg base 3 "m_parted" ["one", "other", "m"] (Ov K) := by
  refine F.calE (F.fn.okE Dn (fun vs H Q E h => ?_) (fun cdv A outer s H vs Q E hr h => ?_))
  . obtain ⟨x, y, m, p, q, _, _, _, _, _, rfl, _⟩ := h
    rfl
  obtain ⟨x, y, m, p, q, l, l', n, n', k, rfl, hx, hy, h15, h15', hn', hm, hk, h8, k0, kq⟩ := h
  have my := hy.mem
  obtain ⟨⟨a, rfl, ha⟩, tp, lp, zp⟩ := id hx
  obtain ⟨⟨b, rfl, hb⟩, tq, lq, zq⟩ := id hy
  refine S.Bd ⟨_, (S.Ac (S.Cy (S.Aj (Im hr.units) (S.pv 1) (S.Ar S.Ab) (Aq _)) (S.Ae (S.Em xk_NoPart xm_NoPart (S.Aa S.Qj S.Ab))) S.Bb)
      (S.Ac (S.Ah (i := 3) Dn.nd rfl (Or.inl rfl) (S.Dk ce_inverse_by (hr.mono (by decide)) (S.Aa (S.Bo Az (S.pv 1) (S.Dr Ci S.Ad) (fun _ _ => rfl)) (S.Aa (S.pv 2) S.Ab))))
      (S.Ac (S.Ah (i := 4) Dn.nd rfl (Or.inl rfl) (S.Ft Eu rfl z_list PyProof.Rows.boot_list (S.Aa (S.Ai c_by_number (hr.mono (by decide)) (S.Aa (S.pv 0) (S.Aa (S.pv 2) S.Ab))) S.Ab)))
      (S.Ac (S.Ah (i := 5) Dn.nd rfl (Or.inl rfl) (S.Ak Z9 (S.Ht (S.Aa S.Ad S.Ab)) (S.Dd (Vf rfl) rfl z_max PyProof.Rows.boot_max (S.Aa (S.Ak Cw (S.Ak Ej (S.Dd Aw rfl z_len PySem.boot_len (S.Aa (S.pv 4) S.Ab)) (S.Dd Aw rfl z_len PySem.boot_len (S.Aa (S.pv 1) S.Ab))) S.Ad) (S.Aa S.Ad S.Ab)))))
      (S.Ac (S.Aar (S.Ey PassesOwn.never rfl (S.Mt rfl z_range (S.Aa (S.Ak Ej (S.Dd Aw rfl z_len PySem.boot_len (S.Aa (S.pv 5) S.Ab)) S.Ad) (S.Aa (S.Dr Ci S.Ad) (S.Aa (S.Dr Ci S.Ad) S.Ab)))) (S.Ax (i := 6) Dn.nd rfl (Or.inl rfl)) (S.Ac (S.Ah (i := 7) Dn.nd rfl (Or.inl rfl) (S.Ak Ec (S.Ak Cr (S.Bo Fg (S.pv 4) (S.Ak Cw (S.pv 6) (S.Ai c_degree (hr.mono (by decide)) (S.Aa (S.pv 1) S.Ab))) (fun _ _ => rfl)) (S.pv 3)) (S.pv 2)))
      (S.Ac (S.Es (S.pv 7) (S.Lz (S.pv 5) (S.pv 6) set_list))
      (S.Ae (S.Cy (S.Aj Ry (S.pv 7) S.Ad (Aq _)) (S.Ae (S.Ey PassesOwn.never rfl (S.Ti rfl z_enumerate (S.Aa (S.pv 1) S.Ab)) (S.Fz rfl (S.Bl (S.Ax (i := 8) Dn.nd rfl (Or.inl rfl)) (S.Bl (S.Ax (i := 9) Dn.nd rfl (Or.inl rfl)) S.Ek))) (S.Ae (S.Es (S.Ak Ec (S.Ak Ej (S.Bo Fg (S.pv 4) (S.Ak Cw (S.pv 6) (S.pv 8)) (fun _ _ => rfl)) (S.Ak Cr (S.pv 7) (S.pv 9))) (S.pv 2)) (S.Lz (S.pv 4) (S.Ak Cw (S.pv 6) (S.pv 8)) set_list))))) S.Bb))))))
      (S.Ae (S.Al (S.Ar (S.Aa (S.Ai c_poly (hr.mono (by decide)) (S.Aa (S.pv 5) S.Ab)) (S.Aa (S.Ai c_poly (hr.mono (by decide)) (S.Aa (S.pv 4) S.Ab)) S.Ab)))))))))), ?_⟩
  refine Bc (fun σ' H' => Same H H' /\ q ≠ [] /\ σ' = [some (.ref a), some (.ref b), some (.int m), none, none, none, none, none, none, none]) (fun N hN => ?_) ?_
  . contradiction
    refine ⟨by decide, fun e0 he0 => ?_⟩
    have se := Same.upd he0 (.tup [])
    refine Cv (ms := []) (se.tup hb) (.of Af) ?_
    try contradiction
    split
    . rename_i h
      exact k0 (.inl h) _ se
    . rename_i h
      exact hN _ _ ⟨se, h, rfl⟩
  rintro σ H1 ⟨s1, hq, rfl⟩
  have hql : 0 < q.length := List.length_pos_iff.mpr hq
  have sz5 : 1000 <= sizeLine := by decide
  refine Bc (fun σ' H' => H' = H1 /\ Int.gcd (co q (q.length - 1)) m = 1 /\ ∃ iv : Int, σ' = [some (.ref a), some (.ref b), some (.int m), some (.int iv), none, none, none, none, none, none] /\ 0 <= iv /\ iv < m /\ iv * co q (q.length - 1) % m = 1) (fun N hN => ?_) ?_
  . contradiction
    refine Ce (s1.tup hb) (Hi hq) ?_
    try contradiction
    exact ⟨_, m, k, rfl, hm, hk, h8, fun hg => k0 (.inr hg) _ s1, fun hg r r0 r1 hr => hN _ _ ⟨rfl, hg, r, rfl, r0, r1, hr⟩⟩
  rintro σ H2 ⟨rfl, hg, iv, rfl, iv0, iv1, hiv⟩
  replace kq := kq hq hg
  refine Bc (fun σ' H' => Same H H' /\ ∃ cr, σ' = [some (.ref a), some (.ref b), some (.int m), some (.int iv), some (.ref cr), none, none, none, none, none] /\ H cr = none /\ H' cr = some (.lst ((md p m).map V.int))) (fun N hN => ?_) ?_
  . contradiction
    refine Qx hx s1 (by omega) (by omega) hk fun z H3 s3 i3 => ?_
    obtain ⟨⟨c, rfl, hc⟩, _⟩ := i3
    try contradiction
    exact ⟨c, _, rfl, .inr hc, fun cr hcr => hN _ _ ⟨(s1.trans s3).trans (Same.upd hcr _), cr, rfl, Same.free (s1.trans s3) hcr, Af⟩⟩
  rintro σ H3 ⟨s3, cr, rfl, nr, hcr⟩
  obtain ⟨L, hL⟩ : ∃ L, L = (md p m).length + 1 - q.length := ⟨_, rfl⟩
  have lmd := Aeb p m
  have eL : (if (0 : Int) > ((md p m).length : Int) - (q.length : Int) + 1 then (0 : Int) else ((md p m).length : Int) - (q.length : Int) + 1) = (L : Int) := by
    subst hL
    split <;> omega
  refine Bc (fun σ' H' => Same H H' /\ ∃ cq, σ' = [some (.ref a), some (.ref b), some (.int m), some (.int iv), some (.ref cr), some (.ref cq), none, none, none, none] /\ H cq = none /\ cq ≠ cr /\ H' cq = some (.lst ((List.replicate L (0 : Int)).map V.int)) /\ H' cr = some (.lst ((md p m).map V.int))) (fun N hN => ?_) ?_
  . contradiction
    intro p3 hp3
    have t3 := Same.upd hp3 (.lst [V.int 0])
    have u3 := s3.trans t3
    refine ⟨cr, _, rfl, .inl (.of (t3 _ _ hcr)), b, _, rfl, .inr (u3.tup hb), ?_⟩
    simp only [K7, Gp, K4, Lg, Gn, Kz, Dh, Ky, Gq, Fx, z_c, U8, V0, Vw, Ld, Vy, K8, Le, K6, Lb, Et, Vz, Ku, Lk, Ko, Gi, Fw, K5, Lw, Vr, Fp, Ls, Ge, V1, Gz, Lj, Gm, Vu, Ly, K1, Dw, Fl, Gd, Fi, Dz, Fo, Lx, Lf, Ln, Iz, Vx, Cz, Gh, K9, V2, Ks, Gs, Lp, Kv, Gv, Kr, Gf, Fq, Gx, Eb, Lr, Dy, Fv, Gj, Ga, Ea, Kq, Gk, Lh, Gu, Fy, Fj, Du, Gw, Vs, cpσ, List.getElem?_cons_zero, List.getElem?_cons_succ, Option.join_some, List.set_cons_zero, List.set_cons_succ, List.append_nil, decide_eq_true_eq, Bool.not_eq_true', decide_eq_false_iff_not, Bool.not_not, ite_not, Bool.false_eq_true, Bool.true_eq_false, if_false, if_true, if_pos, List.length_cons, List.length_nil, Nat.zero_add, Nat.reduceAdd, Gy, Gg, true_and, and_true, L2.start, List.map_cons, List.map_nil, Bool.not_true, Bool.not_false, Nat.reduceSub, List.replicate_succ, List.replicate_zero, List.cons_append, List.nil_append, List.length_map, eL]
    refine ⟨p3, _, [V.int 0], rfl, rfl, Af, by omega, by omega, by simp only [Int.toNat_natCast, List.length_cons, List.length_nil]; omega, fun cq hcq => ?_⟩
    rw [Int.toNat_natCast, Nr]
    have t4 := t3.trans (Same.upd hcq (.lst ((List.replicate L (0 : Int)).map V.int)))
    exact hN _ _ ⟨s3.trans t4, cq, rfl, Same.free u3 hcq, Ne.symm (Bt (t3 _ _ hcr) hcq), Af, t4 _ _ hcr⟩
  clear hcr s3
  rintro σ H4 ⟨s4, cq, rfl, nq, ne, hcq, hcr⟩
  have hm0 : 0 < m := by omega
  refine Bc (fun σ' H' => Same H H' /\ ∃ (qs rs : List Int) (o6 o7 o8 o9 : Option V), σ' = [some (.ref a), some (.ref b), some (.int m), some (.int iv), some (.ref cr), some (.ref cq), o6, o7, o8, o9] /\ H' cq = some (.lst (qs.map V.int)) /\ H' cr = some (.lst (rs.map V.int)) /\ qs.length = L /\ rs.length = (md p m).length /\ MV m p q qs rs 0) (fun N hN => ?_) ?_
  . rw [Iz]
    contradiction
    refine ⟨cq, _, rfl, .inl (.of hcq), ?_⟩
    try contradiction
    rw [List.length_map, List.length_replicate]
    refine ⟨by omega, ?_⟩
    refine Ai1 L (fun i => .int ((L : Int) - 1 - (i : Nat))) (fun i σ' H' => Same H H' /\ ∃ (qs rs : List Int) (o6 o7 o8 o9 : Option V), σ' = [some (.ref a), some (.ref b), some (.int m), some (.int iv), some (.ref cr), some (.ref cq), o6, o7, o8, o9] /\ H' cq = some (.lst (qs.map V.int)) /\ H' cr = some (.lst (rs.map V.int)) /\ qs.length = L /\ rs.length = (md p m).length /\ MV m p q qs rs (L - i)) ?_ ?_ ?_ ?_
    . refine ⟨s4, _, _, _, _, _, _, rfl, hcq, hcr, List.length_replicate, rfl, ?_⟩
      rw [hL, Nat.sub_zero]
      refine MV.start hm0 hq (fun t => ?_) fun t => ?_
      . rw [Yx]
        exact ⟨co p t / m, by have := Int.mul_ediv_add_emod (co p t) m; omega⟩
      . rw [Yx]
        exact ⟨Int.emod_nonneg _ (by omega), Int.emod_lt_of_pos _ hm0⟩
    . intro i σ' H' _
      have e : ((L : Int) - 1 - -1).toNat = L := by omega
      rw [e]
      exact Qc
    . clear hcq hcr s4
      rintro i σ' H5 hi ⟨s5, qs, rs, o6, o7, o8, o9, rfl, hcq, hcr, hlq, hlr, dv⟩
      obtain ⟨j, hj⟩ : ∃ j : Nat, j + 1 = L - i := ⟨L - i - 1, by omega⟩
      have pj : (L : Int) - 1 - (i : Nat) = (j : Int) := by omega
      rw [<- hj] at dv
      rw [Dh, pj]
      simp only [List.set_cons_succ, List.set_cons_zero]
      obtain ⟨d, hd⟩ : ∃ d, d + 1 = q.length := ⟨q.length - 1, by omega⟩
      have hd' : q.length - 1 = d := by omega
      have hjd : j + d < rs.length := by omega
      have hjq : j < qs.length := by omega
      have ix : (j : Int) + ((q.length : Int) - 1) = ((j + d : Nat) : Int) := by omega
      have er : rs[j + d] = co rs (j + d) := (Cp hjd).symm
      rw [hd'] at hiv
      have zr : Sz k (co rs (j + d)) := hk.of_abs (by have := dv.rr (j + d); omega)
      have ziv : Sz k iv := hk.of_abs (by omega)
      obtain ⟨fc, hfc⟩ : ∃ fc, fc = co rs (j + d) * iv % m := ⟨_, rfl⟩
      have f0 : 0 <= fc := by rw [hfc]; exact Int.emod_nonneg _ (by omega)
      have f1 : fc < m := by rw [hfc]; exact Int.emod_lt_of_pos _ hm0
      have zf : Sz k fc := hk.of_abs (by omega)
      have ef : m ∣ co rs (j + d) - fc * co q d := by rw [hfc]; exact Ac8 hiv hm
      refine Bc (fun σ' H' => H' = H5 /\ σ' = [some (.ref a), some (.ref b), some (.int m), some (.int iv), some (.ref cr), some (.ref cq), some (.int j), some (.int fc), o8, o9]) (fun N hN => ?_) ?_
      . contradiction
        refine Cd hy s5 ?_
        simp only [K7, Gp, K4, Lg, Gn, Kz, Dh, Ky, Gq, Fx, z_c, U8, V0, Vw, Ld, Vy, K8, Le, K6, Lb, Et, Vz, Ku, Lk, Ko, Gi, Fw, K5, Lw, Vr, Fp, Ls, Ge, V1, Gz, Lj, Gm, Vu, Ly, K1, Dw, Fl, Gd, Fi, Dz, Fo, Lx, Lf, Ln, Iz, Vx, Cz, Gh, K9, V2, Ks, Gs, Lp, Kv, Gv, Kr, Gf, Fq, Gx, Eb, Lr, Dy, Fv, Gj, Ga, Ea, Kq, Gk, Lh, Gu, Fy, Fj, Du, Gw, Vs, cpσ, List.getElem?_cons_zero, List.getElem?_cons_succ, Option.join_some, List.set_cons_zero, List.set_cons_succ, List.append_nil, decide_eq_true_eq, Bool.not_eq_true', decide_eq_false_iff_not, Bool.not_not, ite_not, Bool.false_eq_true, Bool.true_eq_false, if_false, if_true, if_pos, List.length_cons, List.length_nil, Nat.zero_add, Nat.reduceAdd, Gy, Gg, true_and, and_true, L2.start, List.map_cons, List.map_nil, Bool.not_true, Bool.not_false, Nat.reduceSub, List.replicate_succ, List.replicate_zero, List.cons_append, List.nil_append, ix]
        refine Ox (.of hcr) (G9 hjd) ?_
        try contradiction
        rw [er, <- hfc]
        exact ⟨zr.mulOk ziv (by omega), hm0, hN _ _ ⟨rfl, rfl⟩⟩
      rintro σ' H6 ⟨rfl, rfl⟩
      refine Bc (fun σ' H' => Same H H' /\ σ' = [some (.ref a), some (.ref b), some (.int m), some (.int iv), some (.ref cr), some (.ref cq), some (.int j), some (.int fc), o8, o9] /\ H' cq = some (.lst ((qs.set j fc).map V.int)) /\ H' cr = some (.lst (rs.map V.int))) (fun N hN => ?_) ?_
      . contradiction
        refine Wq hcq (by rw [List.length_map]; exact hjq) ?_
        rw [Jh]
        exact hN _ _ ⟨s5.put nq, rfl, Af, by rw [Cm (Ne.symm ne)]; exact hcr⟩
      clear hcq hcr s5
      rintro σ' H8 ⟨s5, rfl, hcq, hcr⟩
      have fin : ∀ (rs' : List Int) (o8 o9 : Option V) (H9 : Hp), Same H H9 -> H9 cq = some (.lst ((qs.set j fc).map V.int)) -> H9 cr = some (.lst (rs'.map V.int)) -> rs'.length = rs.length -> (∀ k, co rs' k = (co rs k - (if j <= k then fc * co q (k - j) else 0)) % m) ->
          Same H H9 /\ ∃ (qs' rs'' : List Int) (u6 u7 u8 u9 : Option V), [some (V.ref a), some (.ref b), some (.int m), some (.int iv), some (.ref cr), some (.ref cq), some (.int j), some (.int fc), o8, o9] = [some (.ref a), some (.ref b), some (.int m), some (.int iv), some (.ref cr), some (.ref cq), u6, u7, u8, u9] /\ H9 cq = some (.lst (qs'.map V.int)) /\ H9 cr = some (.lst (rs''.map V.int)) /\ qs'.length = L /\ rs''.length = (md p m).length /\ MV m p q qs' rs'' (L - (i + 1)) := by
        intro rs' o8 o9 H9 s9 h1 h2 hl2 hco
        refine ⟨s9, _, rs', _, _, _, _, rfl, h1, h2, by rw [List.length_set]; exact hlq, by omega, ?_⟩
        rw [show L - (i + 1) = j by omega]
        exact dv.step hm0 hq hjq f0 f1 (by rw [hd']; exact ef) hco
      contradiction
      split
      . rename_i h0
        refine fin rs _ _ _ s5 hcq hcr rfl fun t => ?_
        rw [h0]
        have := dv.rr t
        rw [show (if j <= t then 0 * co q (t - j) else 0) = 0 by split <;> simp, Int.sub_zero, Int.emod_eq_of_lt this.1 this.2]
      . refine ⟨⟨_, s5.tup hb⟩, Yr (es := q) (inj := V.int) (fun pre σ' H' => Same H H' /\ ∃ (u8 u9 : Option V) (ms : List Int), σ' = [some (.ref a), some (.ref b), some (.int m), some (.int iv), some (.ref cr), some (.ref cq), some (.int j), some (.int fc), u8, u9] /\ H' cq = some (.lst ((qs.set j fc).map V.int)) /\ H' cr = some (.lst (ms.map V.int)) /\ ms.length = rs.length /\ ∀ t, co ms t = (co rs t - (if j <= t then fc * co pre (t - j) else 0)) % m) ⟨s5, _, _, rs, rfl, hcq, hcr, rfl, fun t => ?_⟩ ?_ ?_ ?_⟩
        . have := dv.rr t
          rw [Ay, show (if j <= t then fc * 0 else 0) = 0 by split <;> simp, Int.sub_zero, Int.emod_eq_of_lt this.1 this.2]
        . rintro pre σ' H' ⟨s9, _⟩
          exact s9.tup hb
        . rintro pre e post σ' H9 p1 he ⟨s9, u8, u9, ms, rfl, h1, h2, hlm, hco⟩ hp1
          refine Ir (.of Af) ?_
          have hlen := congrArg List.length he
          rw [List.length_append, List.length_cons] at hlen
          have hjj : j + pre.length < ms.length := by omega
          have s10 := Same.upd hp1 (.tup [V.int (pre.length : Nat), V.int e])
          have h1' := s10 _ _ h1
          have h2' := s10 _ _ h2
          have ze : Sz n' e := my e (by rw [he]; simp)
          simp only [K7, Gp, K4, Lg, Gn, Kz, Dh, Ky, Gq, Fx, z_c, U8, V0, Vw, Ld, Vy, K8, Le, K6, Lb, Et, Vz, Ku, Lk, Ko, Gi, Fw, K5, Lw, Vr, Fp, Ls, Ge, V1, Gz, Lj, Gm, Vu, Ly, K1, Dw, Fl, Gd, Fi, Dz, Fo, Lx, Lf, Ln, Iz, Vx, Cz, Gh, K9, V2, Ks, Gs, Lp, Kv, Gv, Kr, Gf, Fq, Gx, Eb, Lr, Dy, Fv, Gj, Ga, Ea, Kq, Gk, Lh, Gu, Fy, Fj, Du, Gw, Vs, cpσ, List.getElem?_cons_zero, List.getElem?_cons_succ, Option.join_some, List.set_cons_zero, List.set_cons_succ, List.append_nil, decide_eq_true_eq, Bool.not_eq_true', decide_eq_false_iff_not, Bool.not_not, ite_not, Bool.false_eq_true, Bool.true_eq_false, if_false, if_true, if_pos, List.length_cons, List.length_nil, Nat.zero_add, Nat.reduceAdd, Gy, Gg, true_and, and_true, L2.start, List.map_cons, List.map_nil, Bool.not_true, Bool.not_false, Nat.reduceSub, List.replicate_succ, List.replicate_zero, List.cons_append, List.nil_append, <- Int.natCast_add]
          refine Ox (.of h2') (G9 hjj) ?_
          try contradiction
          refine ⟨zf.mulOk ze (by omega), hm0, ?_⟩
          refine Wq h2' (by rw [List.length_map]; exact hjj) ?_
          try contradiction
          rw [Jh]
          refine ⟨(s9.trans s10).put nr, _, _, ms.set (j + pre.length) ((ms[j + pre.length] - fc * e) % m), rfl, by rw [Cm ne]; exact h1', Af, by rw [List.length_set]; exact hlm, fun t => ?_⟩
          rw [Qe _ _ _ hjj, Hy, hco t]
          by_cases ht : t = j + pre.length
          . subst ht
            rw [if_pos rfl, if_pos (by omega), if_pos (by omega), <- Cp hjj, hco, if_pos (by omega), show j + pre.length - j = pre.length by omega, Bk (p := pre) (Nat.le_refl _), Int.mul_zero, Int.sub_zero, Int.emod_sub_emod]
          . rw [if_neg ht]
            by_cases hjt : j <= t
            . rw [if_pos hjt, if_pos hjt, if_neg (by omega)]
            . rw [if_neg hjt, if_neg hjt]
        . rintro σ' H9 ⟨s9, u8, u9, ms, rfl, h1, h2, hlm, hco⟩
          exact fin ms u8 u9 H9 s9 h1 h2 hlm hco
    . rintro σ' H5 ⟨s5, qs, rs, o6, o7, o8, o9, rfl, hcq, hcr, hlq, hlr, dv⟩
      rw [Nat.sub_self] at dv
      exact hN _ _ ⟨s5, qs, rs, o6, o7, o8, o9, rfl, hcq, hcr, hlq, hlr, dv⟩
  rintro σ H5 ⟨s5, qs, rs, o6, o7, o8, o9, rfl, hcq, hcr, hlq, hlr, dv⟩
  contradiction
  refine ⟨cq, qs, rfl, .inl (.of hcq), by omega, fun z1 H6 s6 h6 => ?_⟩
  try contradiction
  refine ⟨cr, rs, rfl, .inl (.of (s6 _ _ hcr)), by omega, fun z2 H7 s7 h7 => ?_⟩
  try contradiction
  intro z hz
  have s8 := Same.upd hz (.tup [V.ref z1, V.ref z2])
  have csz : ∀ (x : List Int), (∀ t, 0 <= co x t /\ co x t < m) -> ∀ t, Sz k (co (trim x) t) := fun x hx t => by
    rw [Am]
    exact hk.of_abs (by have := hx t; omega)
  have t1 := Hu qs
  have t2 := Hu rs
  refine kq z _ (.ref z1) (.ref z2) (trim qs) (trim rs) (((s5.trans s6).trans s7).trans s8) (.of Af) ⟨⟨z1, rfl, s8.tup (s7.tup h6)⟩, Av _, by omega, csz qs dv.rq⟩ ⟨⟨z2, rfl, s8.tup h7⟩, Av _, by omega, csz rs dv.rr⟩ (fun t => ?_) ?_ (fun t => by rw [Am]; exact dv.rq t) (fun t => by rw [Am]; exact dv.rr t)
  . rw [Bm (co q) (trim qs) qs fun i => Am qs i, Am]
    exact dv.eq t
  . have : (trim rs).length <= q.length - 1 := by
      have h := (Av rs).len (q := rs.take (q.length - 1)) fun t => by
        rw [Am, Ie]
        split
        . rfl
        . exact dv.top t (by omega)
      rw [List.length_take] at h
      omega
    omega
def Vq (K : PySem.W.Frag) : Sp := fun vs H Q _ => ∃ (x y : V) (m : Int) (p q : List Int) (l l' n n' k : Nat), vs = [x, y, .int m] /\ Po K H x p l n /\ Po K H y q l' n' /\ l <= 100 /\ l' <= 100 /\ n' <= 100000 /\ 1 < m /\ Sz k m /\ k <= 8000 /\ q ≠ [] /\ Int.gcd (co q (q.length - 1)) m = 1 /\ ∀ (d : V) (H' : Hp) (u r : List Int), Same H H' -> Po K H' d r p.length k -> (∀ i, m ∣ co p i - (mu u (co q) i + co r i)) -> r.length < q.length -> (∀ i, 0 <= co r i /\ co r i < m) -> Q d H'
theorem Ab5 {f : Addr} {fd : FuncData} (F : Df K mg "m_rest" Ug ["one", "other", "m"] f fd)   (c_m_parted : Cal P w K mg base 3 "m_parted" ["one", "other", "m"] (Qf K)) : Cal P w K mg base 4 "m_rest" ["one", "other", "m"] (Vq K) := by
  refine F.cal (F.fn.ok Aa9 (fun vs H Q E h => ?_) (fun cdv A outer s H vs Q E hr h => ?_))
  . obtain ⟨x, y, m, p, q, _, _, _, _, _, rfl, _⟩ := h
    rfl
  obtain ⟨x, y, m, p, q, l, l', n, n', k, rfl, hx, hy, h1, h2, h4, hm, hk, h8, hq, hg, c⟩ := h
  refine S.Bd ⟨_, (S.Ae (S.Al (S.Bo Az (S.Ai c_m_parted (hr.mono (by decide)) (S.Aa (S.pv 0) (S.Aa (S.pv 1) (S.Aa (S.pv 2) S.Ab)))) S.Ad (fun _ _ => rfl)))), ?_⟩
  contradiction
  refine ⟨x, y, m, p, q, l, l', n, n', k, rfl, hx, hy, h1, h2, h4, hm, hk, h8, hq, hg, fun z H' a b u r s1 hz iu ir he hl ru rr => ?_⟩
  exact Ce hz (at1 _ _ _) (c b H' u r s1 ir he hl rr)
theorem Zg {t x : Int} (ht : Pr t) (h0 : 0 <= x) (h1 : x < t) (hx : x ≠ 0) : Int.gcd x t = 1 := ht.2 x fun z => by
  have := Int.le_of_dvd (by omega) z
  omega
theorem Zz (t : Int) (p : List Int) (d : List Int) : Dm t d (md p t) ↔ Dm t d p := by
  have e : ∀ i, t ∣ co (md p t) i - co p i := fun i => by
    rw [Yx]
    exact ⟨-(co p i / t), by have := Int.mul_ediv_add_emod (co p i) t; rw [Int.mul_neg]; omega⟩
  exact ⟨fun h => h.congr fun i => Tw (e i), fun h => h.congr e⟩
theorem Zu {t : Int} (ht : 0 < t) (p : List Int) (i : Nat) : 0 <= co (md p t) i /\ co (md p t) i < t := by
  rw [Yx]
  exact ⟨Int.emod_nonneg _ (by omega), Int.emod_lt_of_pos _ ht⟩
structure Sgl (t : Int) (p g : List Int) : Prop where
  tr : Tr g
  rng : ∀ i, 0 <= co g i /\ co g i < t
  dm : ∀ d, Dm t d g ↔ Dm t d p
  len : g.length = (md p t).length
  one : g ≠ [] -> co g (g.length - 1) = 1
theorem Afk {t : Int} (ht : 0 < t) {p : List Int} (h : md p t = []) : Sgl t p [] := ⟨.inl rfl, fun i => by rw [Ay]; omega, fun d => by rw [<- Zz t p d, h], by rw [h], fun z => (z rfl).elim⟩
theorem Aim {t k : Int} (ht : Pr t) {p : List Int} (h : md p t ≠ []) (hk : k * co (md p t) ((md p t).length - 1) % t = 1) : Sgl t p (md (ng (md p t) k) t) := by
  have t0 : 0 < t := by have := ht.1; omega
  have c : ∀ i, co (md (ng (md p t) k) t) i = co (md p t) i * k % t := fun i => by rw [Yx, O9]
  have hl := List.length_pos_iff.mpr h
  have top : co (md (ng (md p t) k) t) ((md p t).length - 1) = 1 := by rw [c, Int.mul_comm]; exact hk
  have len : (md (ng (md p t) k) t).length = (md p t).length := by
    refine Nat.le_antisymm ?_ ?_
    . refine Nat.le_of_not_lt fun z => ?_
      have ne : md (ng (md p t) k) t ≠ [] := fun y => by rw [y] at z; exact absurd z (by simp)
      have := (Aiv (ng (md p t) k) t).lead ne
      rw [c, Bk (by omega)] at this
      simp at this
    . refine Nat.le_of_not_lt fun z => ?_
      rw [Bk (by omega)] at top
      cases top
  refine ⟨Aiv _ _, Zu t0 _, fun d => ?_, len, fun _ => by rw [len]; exact top⟩
  constructor
  . intro hd
    rw [<- Zz t p d]
    refine hd.by (k := co (md p t) ((md p t).length - 1)) fun i => ?_
    rw [c]
    have e1 := Int.mul_ediv_add_emod (co (md p t) i * k) t
    have e2 := Int.mul_ediv_add_emod (k * co (md p t) ((md p t).length - 1)) t
    rw [hk] at e2
    generalize co (md p t) ((md p t).length - 1) = l at *
    generalize co (md p t) i = x at *
    refine ⟨l * (x * k / t) - x * (k * l / t), ?_⟩
    have e3 : x * k % t = x * k - t * (x * k / t) := by omega
    rw [e3]
    have e4 : l * (x * k) = x * (t * (k * l / t) + 1) := by rw [e2]; grind
    have : l * (x * k - t * (x * k / t)) = l * (x * k) - t * (l * (x * k / t)) := by grind
    rw [this, e4]
    grind
  . intro hd
    rw [<- Zz t p d] at hd
    refine hd.by (k := k) fun i => ?_
    rw [c, Int.mul_comm]
    exact ⟨-(k * co (md p t) i / t), by have := Int.mul_ediv_add_emod (k * co (md p t) i) t; rw [Int.mul_neg]; omega⟩
def Uu (K : PySem.W.Frag) : Sp := fun vs H Q _ => ∃ (x : V) (t : Int) (p : List Int) (l n k : Nat), vs = [x, .int t] /\ Po K H x p l n /\ l <= 100 /\ Pr t /\ Sz k t /\ k <= 8000 /\ ∀ (d : V) (H' : Hp) (g : List Int), Same H H' -> Po K H' d g l k -> Sgl t p g -> Q d H'
theorem Abo {f : Addr} {fd : FuncData} (F : Df K mg "single" S8 ["one", "t"] f fd)   (c_by_number : Cal P w K mg base 2 "by_number" ["one", "m"] (Ez K)) (c_scaled : Cal P w K mg base 1 "scaled" ["one", "factor"] (Ew K)) (c_inverse_by : Cal P w K mg base 1 "inverse_by" ["number", "m"] (M7 K)) : Cal P w K mg base 3 "single" ["one", "t"] (Uu K) := by
  refine F.cal (F.fn.ok U7 (fun vs H Q E h => ?_) (fun cdv A outer s H vs Q E hr h => ?_))
  . obtain ⟨x, t, p, _, _, _, rfl, _⟩ := h
    rfl
  obtain ⟨x, t, p, l, n, k, rfl, hx, hl, ht, hk, h8, c⟩ := h
  have t0 : 0 < t := by have := ht.1; omega
  refine S.Bd ⟨_, (S.Ac (S.Ah (i := 2) U7.nd rfl (Or.inl rfl) (S.Ai c_by_number (hr.mono (by decide)) (S.Aa (S.pv 0) (S.Aa (S.pv 1) S.Ab))))
      (S.Ac (S.Cy (S.Aj (Im hr.units) (S.pv 2) (S.Ar S.Ab) (Aq _)) (S.Ae (S.Al (S.Ar S.Ab))) S.Bb)
      (S.Ae (S.Al (S.Ai c_by_number (hr.mono (by decide)) (S.Aa (S.Ai c_scaled (hr.mono (by decide)) (S.Aa (S.pv 2) (S.Aa (S.Ai c_inverse_by (hr.mono (by decide)) (S.Aa (S.Bo Az (S.pv 2) (S.Dr Ci S.Ad) (fun _ _ => rfl)) (S.Aa (S.pv 1) S.Ab))) S.Ab))) (S.Aa (S.pv 1) S.Ab))))))), ?_⟩
  contradiction
  refine Qx hx (Same.refl _) (by omega) t0 hk fun z H1 s1 i1 => ?_
  try contradiction
  refine ⟨by decide, fun e0 he0 => ?_⟩
  have se := Same.upd he0 (.tup [])
  obtain ⟨⟨a, rfl, ha⟩, tm', lm, zm⟩ := id i1
  refine Cv (ms := []) (se.tup ha) (.of Af) ?_
  try contradiction
  split
  . rename_i h
    refine ⟨by decide, fun e1 he1 => ?_⟩
    exact c _ _ [] ((s1.trans se).trans (Same.upd he1 _)) ⟨⟨e1, rfl, .of Af⟩, .inl rfl, Nat.zero_le _, fun i => by rw [Ay]; exact hk.of_abs (by simp)⟩ (Afk t0 h)
  . rename_i h
    refine Ce (se.tup ha) (Hi h) ?_
    try contradiction
    have r := Zu t0 p ((md p t).length - 1)
    refine ⟨_, t, k, rfl, ht.1, hk, h8, Zg ht r.1 r.2 (tm'.lead h), fun iv iv0 iv1 hiv => ?_⟩
    try contradiction
    refine ⟨_, iv, _, l, k, k, rfl, i1.mono se, hk.of_abs (by omega), by omega, by omega, fun w H2 s2 i2 => ?_⟩
    try contradiction
    exact Qx i2 (Same.refl _) (by omega) t0 hk fun v H3 s3 i3 => c v H3 _ (((s1.trans se).trans s2).trans s3) i3 (Aim ht h hiv)
def Qm (K : PySem.W.Frag) : Sp := fun vs H Q _ => ∃ (x y : V) (t : Int) (p q : List Int) (l l' n n' k : Nat), vs = [x, y, .int t] /\ Po K H x p l n /\ Po K H y q l' n' /\ l <= 100 /\ l' <= 100 /\ Pr t /\ Sz k t /\ k <= 8000 /\ ∀ (d : V) (H' : Hp) (f g : List Int), Same H H' -> Po K H' d g (max l l') k -> Sgl t f g -> Agm t f [] p q -> Q d H'
theorem W6 {f : Addr} {fd : FuncData} (F : Df K mg "m_shared" Nz ["one", "other", "t"] f fd)   (c_by_number : Cal P w K mg base 2 "by_number" ["one", "m"] (Ez K)) (c_single : Cal P w K mg base 3 "single" ["one", "t"] (Uu K)) (c_m_rest : Cal P w K mg base 4 "m_rest" ["one", "other", "m"] (Vq K)) : Cal P w K mg base 5 "m_shared" ["one", "other", "t"] (Qm K) := by
  refine F.cal (F.fn.ok Iw (fun vs H Q E h => ?_) (fun cdv A outer s H vs Q E hr h => ?_))
  . obtain ⟨x, y, t, p, q, _, _, _, _, _, rfl, _⟩ := h
    rfl
  obtain ⟨x, y, t, p, q, l, l', n, n', k, rfl, hx, hy, hl, hl', ht, hk, h8, c⟩ := h
  have t0 : 0 < t := by have := ht.1; omega
  refine S.Bd ⟨_, (S.Ac (S.Ah (i := 3) Iw.nd rfl (Or.inl rfl) (S.Ai c_by_number (hr.mono (by decide)) (S.Aa (S.pv 0) (S.Aa (S.pv 2) S.Ab))))
      (S.Ac (S.Ah (i := 4) Iw.nd rfl (Or.inl rfl) (S.Ai c_by_number (hr.mono (by decide)) (S.Aa (S.pv 1) (S.Aa (S.pv 2) S.Ab))))
      (S.Ac (S.Hg PassesOwn.never (S.Aj (Vl hr.units) (S.pv 4) (S.Ar S.Ab) (Aq _)) (S.Ae (S.Nf (i := 3) (j := 4) rfl Iw.nd rfl rfl (by decide) rfl rfl (S.Aa (S.pv 4) (S.Aa (S.Ai c_m_rest (hr.mono (by decide)) (S.Aa (S.pv 3) (S.Aa (S.pv 4) (S.Aa (S.pv 2) S.Ab)))) S.Ab)) rfl)))
      (S.Ae (S.Al (S.Ai c_single (hr.mono (by decide)) (S.Aa (S.pv 3) (S.Aa (S.pv 2) S.Ab)))))))), ?_⟩
  contradiction
  refine Qx hx (Same.refl _) (by omega) t0 hk fun z1 H1 s1 i1 => ?_
  try contradiction
  refine Qx hy s1 (by omega) t0 hk fun z2 H2 s2 i2 => ?_
  try contradiction
  refine Ab1 (fun m σ H' => Same H H' /\ ∃ (v w : V) (f g : List Int), σ = [some x, some y, some (.int t), some v, some w] /\ m = g.length /\ Po K H' v f (max l l') k /\ Po K H' w g (max l l') k /\ (∀ i, 0 <= co g i /\ co g i < t) /\ Agm t f g p q) _
    ⟨s1.trans s2, z1, z2, _, _, rfl, rfl, ⟨(i1.mono s2).1, i1.2.1, Nat.le_trans i1.2.2.1 (Nat.le_max_left ..), i1.2.2.2⟩, ⟨i2.1, i2.2.1, Nat.le_trans i2.2.2.1 (Nat.le_max_right ..), i2.2.2.2⟩, Zu t0 q, fun d => by rw [Zz, Zz]⟩ ?_
  rintro m σ H' ⟨s3, v, w, f, g, rfl, rfl, iv, iw, rg, sm⟩
  contradiction
  refine ⟨by decide, fun e0 he0 => ?_⟩
  have se := Same.upd he0 (.tup [])
  obtain ⟨⟨b, rfl, hb⟩, tg, lg, zg⟩ := id iw
  refine Cv (ms := []) (se.tup hb) (.of Af) ?_
  try contradiction
  by_cases hg : g = []
  . rw [if_pos hg]
    subst hg
    try contradiction
    exact ⟨v, t, f, max l l', k, k, rfl, iv.mono se, by omega, ht, hk, h8, fun d H4 g s4 i4 hs => c d H4 f g ((s3.trans se).trans s4) i4 hs sm⟩
  . rw [if_neg hg]
    refine Aif ?_
    try contradiction
    have r := rg (g.length - 1)
    refine ⟨v, .ref b, t, f, g, _, _, _, _, k, rfl, iv.mono se, iw.mono se, by omega, by omega, by omega, ht.1, hk, h8, hg, Zg ht r.1 r.2 (tg.lead hg), fun d H4 u r s4 i4 he hlr rr => ?_⟩
    try contradiction
    refine ⟨r.length, hlr, (s3.trans se).trans s4, .ref b, d, g, r, rfl, rfl, iw.mono (se.trans s4), ⟨i4.1, i4.2.1, Nat.le_trans (Nat.le_of_lt hlr) lg, i4.2.2.2⟩, rr, fun e => (X8 he e).trans (sm e)⟩
def Jq (K : PySem.W.Frag) : Sp := fun vs H Q _ => ∃ (x y : V) (p q : List Int) (l l' n n' : Nat), vs = [x, y] /\ Po K H x p l n /\ Po K H y q l' n' /\ l <= 100 /\ l' <= 100 /\ ∀ (b : Bool) (H' : Hp), Same H H' -> (b = true -> Gc p q [1]) -> Q (.bl b) H'
theorem P0 {f : Addr} {fd : FuncData} (F : Df K mg "surely_apart" Hw ["one", "other"] f fd)  (xc_PRIME : ∃ u, mg "PRIME" = some u /\ RelV (V.int 2305843009213693951) u) (c_degree : Cal P w K mg base 1 "degree" ["one"] (Dq K)) (c_m_shared : Cal P w K mg base 5 "m_shared" ["one", "other", "t"] (Qm K)) : Cal P w K mg base 6 "surely_apart" ["one", "other"] (Jq K) := by
  refine F.cal (F.fn.ok Rr (fun vs H Q E h => ?_) (fun cdv A outer s H vs Q E hr h => ?_))
  . obtain ⟨x, y, p, q, _, _, _, _, rfl, _⟩ := h
    rfl
  obtain ⟨x, y, p, q, l, l', n, n', rfl, hx, hy, hl, hl', c⟩ := h
  obtain ⟨⟨a, rfl, ha⟩, tp, lp, zp⟩ := id hx
  obtain ⟨⟨b, rfl, hb⟩, tq, lq, zq⟩ := id hy
  refine S.Bd ⟨_, (S.Ac (S.Cy (S.O6 (S.Ms (S.Aj (Im hr.units) (S.pv 0) (S.Ar S.Ab) (Aq _)) (S.Ms (S.Aj (Im hr.units) (S.pv 1) (S.Ar S.Ab) (Aq _)) (S.J1 (S.Aj Lq (S.Ak Ec (S.Bo Az (S.pv 0) (S.Dr Ci S.Ad) (fun _ _ => rfl)) (S.Nk (v := .int 2305843009213693951) rfl xc_PRIME)) S.Ad (Aq _)))))) (S.Ae (S.Al S.Li)) S.Bb)
      (S.Ae (S.Al (S.Hv Lq (S.Ai c_degree (hr.mono (by decide)) (S.Aa (S.Ai c_m_shared (hr.mono (by decide)) (S.Aa (S.pv 0) (S.Aa (S.pv 1) (S.Aa (S.Nk (v := .int 2305843009213693951) rfl xc_PRIME) S.Ab)))) S.Ab)) S.Ad (Aq _))))), ?_⟩
  contradiction
  refine ⟨by decide, fun e0 he0 => ?_⟩
  have s0 := Same.upd he0 (.tup [])
  refine Cv (ms := []) (s0.tup ha) (.of Af) ?_
  try contradiction
  by_cases hp : p = []
  . rw [if_pos hp]
    exact c false _ s0 fun h => nomatch h
  rw [if_neg hp]
  refine ⟨by decide, fun e1 he1 => ?_⟩
  have s1 := s0.trans (Same.upd he1 (.tup []))
  refine Cv (ms := []) (s1.tup hb) (.of Af) ?_
  try contradiction
  by_cases hq : q = []
  . rw [if_pos hq]
    exact c false _ s1 fun h => nomatch h
  rw [if_neg hq]
  refine Ce (s1.tup ha) (Hi hp) ?_
  try contradiction
  refine ⟨by decide, ?_⟩
  by_cases hz : co p (p.length - 1) % 2305843009213693951 = 0
  . rw [if_pos hz]
    exact c false _ s1 fun h => nomatch h
  rw [if_neg hz]
  refine ⟨_, _, _, p, q, l, l', n, n', 61, rfl, hx.mono s1, hy.mono s1, hl, hl', Ae1, by unfold Sz; decide, by decide, fun d H4 f g s4 i4 hs sm => ?_⟩
  try contradiction
  refine Cd i4 (Same.refl _) ?_
  try contradiction
  refine c _ _ (s1.trans s4) fun hd => ?_
  have hd' : g.length = 1 := by
    have := of_decide_eq_true hd
    omega
  have g1 : g = [1] := by
    match g, hd' with
    | [k], _ =>
      have := hs.one (by simp)
      have e : k = 1 := this
      rw [e]
  refine apart Ae1 tp hp (fun z => hz (Int.emod_eq_zero_of_dvd z)) fun e h1 h2 => ?_
  rw [<- g1, hs.dm]
  exact ((sm e).mpr ⟨h1, h2⟩).1
def X6 (K : PySem.W.Frag) : Sp := fun vs H Q _ => ∃ (x : V) (m M : Nat) (mi : Int) (p : List Int) (l n : Nat), vs = [x, .int mi] /\ (mi = (m : Nat) \/ mi < 0 /\ m = 0) /\ Po K H x p l n /\ m <= M /\ 1 <= M /\ M * l + 1 <= 500 /\ M * (n + l) + 1 <= 1000000 /\ ∀ z H', Same H H' -> Po K H' z (pw p m) (m * l + 1) (m * (n + l) + 1) -> Q z H'
theorem Ac6 {f : Addr} {fd : FuncData} (F : Df K mg "power" Wg ["one", "many"] f fd)  (xm_p_times : mg "p_times" = some (.ref (cA K "p_times"))) (c_repeated : Cal P w K mg base 2 "repeated" ["start", "one", "many", "product"] (Qd K)) : Cal P w K mg base 3 "power" ["one", "many"] (X6 K) := by
  refine F.cal (F.fn.ok Ady (fun vs H Q E h => ?_) (fun cdv A outer s H vs Q E hr h => ?_))
  . obtain ⟨x, m, M, mi, p, _, _, rfl, _⟩ := h
    rfl
  obtain ⟨x, m, M, mi, p, l, n, rfl, hmi, hx, hm, hM, hl, hn, k⟩ := h
  refine S.Bd ⟨_, (S.Ae (S.Al (S.Ai c_repeated (hr.mono (by decide)) (S.Aa (S.Ar (S.Aa S.Ad S.Ab)) (S.Aa (S.pv 0) (S.Aa (S.pv 1) (S.Aa (S.Jy (v := .ref (cA K "p_times")) rfl xm_p_times rfl) S.Ab))))))), ?_⟩
  contradiction
  intro p0 hp0
  have s0 := Same.upd hp0 (.tup [V.int 1])
  refine ⟨_, x, m, M, _, p, l, n, rfl, hmi, ⟨p0, rfl, .of Af⟩, hx.mono s0, hm, hM, hl, hn, fun z H' s1 i1 => k _ _ (s0.trans s1) i1⟩
theorem Ad6 (b : Int) (hb : b ≠ 0) : ∀ m : Nat, pw [b] m = [b ^ m]
  | 0 => by rw [pw, Int.pow_zero]
  | m + 1 => by
    rw [pw, Ad6 b hb m]
    refine (Dj _ _).ext (.inr ⟨by simp, by simp; exact Int.pow_ne_zero hb⟩) fun i => ?_
    rw [Bv]
    cases i with
    | zero => simp [mu, sh, Bu, Int.pow_succ]; exact Int.mul_comm _ _
    | succ i => cases i <;> simp [mu, sh, Bx, Ay]
def Di (K : PySem.W.Frag) : Sp := fun vs H Q _ => ∃ (b : Int) (m n : Nat), vs = [.int b, .int (m : Nat)] /\ b ≠ 0 /\ Sz n b /\ n <= 20000 /\ m <= 40 /\ ∀ H', Same H H' -> Q (.int (b ^ m)) H'
theorem Rz {f : Addr} {fd : FuncData} (F : Df K mg "whole_power" Je ["number", "many"] f fd)   (c_power : Cal P w K mg base 3 "power" ["one", "many"] (X6 K)) : Cal P w K mg base 4 "whole_power" ["number", "many"] (Di K) := by
  refine F.cal (F.fn.ok R3 (fun vs H Q E h => ?_) (fun cdv A outer s H vs Q E hr h => ?_))
  . obtain ⟨b, m, n, rfl, _⟩ := h
    rfl
  obtain ⟨b, m, n, rfl, hb, zb, hn, hm, k⟩ := h
  refine S.Bd ⟨_, (S.Ae (S.Al (S.Bo Az (S.Ai c_power (hr.mono (by decide)) (S.Aa (S.Ar (S.Aa (S.pv 0) S.Ab)) (S.Aa (S.pv 1) S.Ab))) S.Ad (fun _ _ => rfl)))), ?_⟩
  contradiction
  intro p0 hp0
  have i0 : Po K (upd H p0 (.tup [V.int b])) (.ref p0) [b] 1 (n + 1) := ⟨⟨p0, rfl, .of Af⟩, .inr ⟨by simp, by simpa using hb⟩, Nat.le_refl _, fun i => Wm (by omega) (fun x hx => by
    have e : x = b := by simpa using hx
    rw [e]; exact zb.mono (by omega)) i⟩
  refine ⟨_, m, 40, _, _, _, _, rfl, .inl rfl, i0, hm, by decide, by decide, by omega, fun z H' s' i => ?_⟩
  obtain ⟨⟨c, rfl, hc⟩, _⟩ := i
  rw [Ad6 b hb] at hc
  exact Ce hc (at0 _ _) (k _ ((Same.upd hp0 _).trans s'))
theorem Vo {H : Hp} {Q : VK} {E : XK} {b : Int} {m n : Nat} {mi : Int} (e : mi = (m : Nat)) (hb : b ≠ 0) (zb : Sz n b) (hn : n <= 20000) (hm : m <= 40) (h : ∀ H', Same H H' -> Q (.int (b ^ m)) H') : Di K [.int b, .int mi] H Q E := ⟨b, m, n, by rw [e], hb, zb, hn, hm, h⟩
theorem Xp {n : Nat} {b : Int} (h : Sz n b) : ∀ m : Nat, Sz (n * m + 1) (b ^ m)
  | 0 => by
    rw [Int.pow_zero, Nat.mul_zero]
    unfold Sz
    decide
  | m + 1 => by
    rw [Int.pow_succ, Nat.mul_succ]
    exact ((Xp h m).mul h).mono (by omega)
def rs (p : List Int) (m : Nat) : List Int := if p = [] then [] else List.replicate m 0 ++ p
def Ux (K : PySem.W.Frag) : Sp := fun vs H Q _ => ∃ (x : V) (m : Nat) (p : List Int) (l n : Nat), vs = [x, .int (m : Nat)] /\ Po K H x p l n /\ m <= 100 /\ l <= 400 /\ ∀ z H', Same H H' -> SqT K H' z ((rs p m).map V.int) -> Q (.ref z) H'
theorem Ace {f : Addr} {fd : FuncData} (F : Df K mg "raised" Ud ["one", "many"] f fd)    : Cal P w K mg base 1 "raised" ["one", "many"] (Ux K) := by
  refine F.cal (F.fn.ok Ab9 (fun vs H Q E h => ?_) (fun cdv A outer s H vs Q E hr h => ?_))
  . obtain ⟨x, m, p, _, _, rfl, _⟩ := h
    rfl
  obtain ⟨x, m, p, l, n, rfl, ⟨⟨a, rfl, ha⟩, tp, lp, zp⟩, hm, hl, k⟩ := h
  have sz5 : 1000 <= sizeLine := by decide
  refine S.Bd ⟨_, (S.Ac (S.Cy (S.Aj (Im hr.units) (S.pv 0) (S.Ar S.Ab) (Aq _)) (S.Ae (S.Al (S.Ar S.Ab))) S.Bb)
      (S.Ae (S.Al (S.Ak Rn (S.Ak Agv (S.Ar (S.Aa S.Ad S.Ab)) (S.pv 1)) (S.pv 0))))), ?_⟩
  contradiction
  refine ⟨by decide, fun p1 hp1 => ?_⟩
  have s1 := Same.upd hp1 (.tup [])
  refine Cv (ms := []) (s1.tup ha) (.of Af) ?_
  try contradiction
  by_cases h1 : p = []
  . rw [if_pos h1]
    refine ⟨by decide, fun z hz => k z _ (s1.trans (Same.upd hz _)) ?_⟩
    rw [rs, if_pos h1]
    exact .of Af
  rw [if_neg h1]
  intro p2 hp2
  have s2 := s1.trans (Same.upd hp2 (.tup [V.int 0]))
  refine ⟨p2, m, [V.int 0], rfl, rfl, .of Af, by simp, by omega, by simp only [List.length_cons, List.length_nil]; omega, fun z H2 s3 hz => ?_⟩
  rw [Nr] at hz
  refine ⟨z, a, _, _, rfl, rfl, hz, (s2.trans s3).tup ha, by rw [List.length_map, List.length_map, List.length_replicate]; omega, fun z2 H3 s4 h4 => k z2 _ ((s2.trans s3).trans s4) ?_⟩
  rw [rs, if_neg h1, List.map_append]
  exact h4
theorem V9 (j : Nat) (p : List Int) (i : Nat) : co (List.replicate j 0 ++ p) i = if j <= i then co p (i - j) else 0 := by
  unfold co
  rw [List.getD_eq_getElem?_getD, List.getD_eq_getElem?_getD]
  by_cases h : j <= i
  . rw [if_pos h, List.getElem?_append_right (by rw [List.length_replicate]; exact h), List.length_replicate]
  . rw [if_neg h, List.getElem?_append_left (by rw [List.length_replicate]; omega), List.getElem?_replicate]
    split <;> rfl
theorem Agq (p : List Int) (m i : Nat) : co (rs p m) i = if m <= i then co p (i - m) else 0 := by
  unfold rs
  split
  . rename_i h
    rw [h, Ay, Ay]
    split <;> rfl
  . exact V9 m p i
theorem Ajj {p : List Int} (h : Tr p) (m : Nat) : Tr (rs p m) := by
  unfold rs
  split
  . exact .inl rfl
  . rename_i n
    refine Tr.of (.inr ?_)
    rw [V9, List.length_append, List.length_replicate, if_pos (by have := List.length_pos_iff.mpr n; omega)]
    have := h.lead n
    rw [show m + p.length - 1 - m = p.length - 1 by omega]
    exact this
theorem Ahm (p : List Int) (m : Nat) : (rs p m).length <= m + p.length := by
  unfold rs
  split
  . simp
  . rw [List.length_append, List.length_replicate]
    exact Nat.le_refl _
theorem Aen (c : Int) (i : Nat) : co [c] i = if i = 0 then c else 0 := by
  cases i with
  | zero => rw [Bu]; rfl
  | succ i => rw [Bx, Ay]; rfl
theorem Aas (c : Int) (j : Nat) (q : List Int) (i : Nat) : mu (rs (trim [c]) j) (co q) i = if j <= i then c * co q (i - j) else 0 := by
  have e : ∀ k, co (rs (trim [c]) j) k = co (List.replicate j 0 ++ [c]) k := fun k => by
    rw [Agq, V9]
    split
    . rw [Am]
    . rfl
  rw [congrFun (Bm (co q) _ _ e) i, Mj, Sd, List.length_replicate, Int.zero_add]
def SdR (K : PySem.W.Frag) (p q : List Int) (l : Nat) (Q : VK) (H : Hp) : Prop := ∀ (z : Addr) (H' : Hp) (c d : V) (u r : List Int), Same H H' -> SqT K H' z [c, d] -> Po K H' c u l BIG -> Po K H' d r l BIG ->
  (∀ k, co q (q.length - 1) ^ (p.length - q.length + 1) * co p k = mu u (co q) k + co r k) -> r.length < q.length -> u.length <= p.length - q.length + 1 -> Q (.ref z) H'
def Hs (K : PySem.W.Frag) : Sp := fun vs H Q _ => ∃ (x y : V) (p q : List Int) (l n : Nat), vs = [x, y] /\ Po K H x p l n /\ Po K H y q l n /\ l <= 60 /\ n <= 9000 /\ q ≠ [] /\ q.length <= p.length /\ SdR K p q l Q H
theorem Mz {f : Addr} {fd : FuncData} (F : Df K mg "scaled_division" Eo ["one", "other"] f fd) (z_range : mg "range" = none) (z_len : mg "len" = none)  (c_raised : Cal P w K mg base 1 "raised" ["one", "many"] (Ux K)) (c_p_plus : Cal P w K mg base 3 "p_plus" ["one", "other"] (Qn K)) (c_p_minus : Cal P w K mg base 4 "p_minus" ["one", "other"] (Nu K)) (c_degree : Cal P w K mg base 1 "degree" ["one"] (Dq K)) (c_poly : Cal P w K mg base 1 "poly" ["weights"] (Ja K)) (c_scaled : Cal P w K mg base 1 "scaled" ["one", "factor"] (Ew K)) (c_p_times : Cal P w K mg base 1 "p_times" ["one", "other"] (Ds K)) : Cal P w K mg base 5 "scaled_division" ["one", "other"] (Hs K) := by
  refine F.cal (F.fn.ok Bp (fun vs H Q E h => ?_) (fun cdv A outer s H vs Q E hr h => ?_))
  . obtain ⟨x, y, p, q, _, _, rfl, _⟩ := h
    rfl
  obtain ⟨x, y, p, q, l, n, rfl, hx, hy, hl, hn, hq, hqp, k⟩ := h
  obtain ⟨⟨a, rfl, ha⟩, tp, lp, zp⟩ := id hx
  obtain ⟨⟨b, rfl, hb⟩, tq, lq, zq⟩ := id hy
  have hql : 0 < q.length := List.length_pos_iff.mpr hq
  have bigE := Xm
  obtain ⟨L, hL⟩ : ∃ L, L = p.length - q.length + 1 := ⟨_, rfl⟩
  obtain ⟨lc, hlc⟩ : ∃ lc, lc = co q (q.length - 1) := ⟨_, rfl⟩
  obtain ⟨B, hB⟩ : ∃ B : Nat -> Nat, B = fun i => n + (n + l + 4) * i := ⟨_, rfl⟩
  have B1 : ∀ i, B (i + 1) = B i + n + l + 4 := fun i => by rw [hB]; show n + (n + l + 4) * (i + 1) = n + (n + l + 4) * i + n + l + 4; rw [Nat.mul_succ]; omega
  have Bn : ∀ i, i <= 60 -> B i <= 560000 := fun i hi => by
    rw [hB]
    have : (n + l + 4) * i <= (n + l + 4) * 60 := Nat.mul_le_mul_left _ hi
    show n + (n + l + 4) * i <= 560000
    omega
  have B0 : B 0 = n := by rw [hB]; rfl
  refine S.Bd ⟨_, (S.Ac (S.Ah (i := 2) Bp.nd rfl (Or.inl rfl) (S.Ar S.Ab))
      (S.Ac (S.Ah (i := 3) Bp.nd rfl (Or.inl rfl) (S.pv 0))
      (S.Ac (S.Ey PassesOwn.never rfl (S.Mt rfl z_range (S.Aa (S.Ak Ej (S.Ai c_degree (hr.mono (by decide)) (S.Aa (S.pv 0) S.Ab)) (S.Ai c_degree (hr.mono (by decide)) (S.Aa (S.pv 1) S.Ab))) (S.Aa (S.Dr Ci S.Ad) (S.Aa (S.Dr Ci S.Ad) S.Ab)))) (S.Ax (i := 4) Bp.nd rfl (Or.inl rfl)) (S.Ac (S.Ah (i := 5) Bp.nd rfl (Or.inl rfl) (S.Nm (S.Aj Tt (S.Ak Cw (S.pv 4) (S.Ai c_degree (hr.mono (by decide)) (S.Aa (S.pv 1) S.Ab))) (S.Dd Aw rfl z_len PySem.boot_len (S.Aa (S.pv 3) S.Ab)) (Aq _)) (S.Bo Az (S.pv 3) (S.Ak Cw (S.pv 4) (S.Ai c_degree (hr.mono (by decide)) (S.Aa (S.pv 1) S.Ab))) (fun _ _ => rfl)) S.Ad))
      (S.Ac (S.Ah (i := 6) Bp.nd rfl (Or.inl rfl) (S.Ai c_raised (hr.mono (by decide)) (S.Aa (S.Ai c_poly (hr.mono (by decide)) (S.Aa (S.Ar (S.Aa (S.pv 5) S.Ab)) S.Ab)) (S.Aa (S.pv 4) S.Ab))))
      (S.Ac (S.Ah (i := 2) Bp.nd rfl (Or.inl rfl) (S.Ai c_p_plus (hr.mono (by decide)) (S.Aa (S.Ai c_scaled (hr.mono (by decide)) (S.Aa (S.pv 2) (S.Aa (S.Bo Az (S.pv 1) (S.Dr Ci S.Ad) (fun _ _ => rfl)) S.Ab))) (S.Aa (S.pv 6) S.Ab))))
      (S.Ae (S.Ah (i := 3) Bp.nd rfl (Or.inl rfl) (S.Ai c_p_minus (hr.mono (by decide)) (S.Aa (S.Ai c_scaled (hr.mono (by decide)) (S.Aa (S.pv 3) (S.Aa (S.Bo Az (S.pv 1) (S.Dr Ci S.Ad) (fun _ _ => rfl)) S.Ab))) (S.Aa (S.Ai c_p_times (hr.mono (by decide)) (S.Aa (S.pv 6) (S.Aa (S.pv 1) S.Ab))) S.Ab)))))))))
      (S.Ae (S.Al (S.Ar (S.Aa (S.pv 2) (S.Aa (S.pv 3) S.Ab)))))))), ?_⟩
  refine Bc (fun σ' H' => Same H H' /\ ∃ e0, σ' = [some (.ref a), some (.ref b), some (.ref e0), none, none, none, none] /\ H' e0 = some (.tup [])) (fun N hN => ?_) ?_
  . contradiction
    refine ⟨by decide, fun e0 he0 => hN _ _ ⟨Same.upd he0 _, e0, rfl, Af⟩⟩
  rintro σ H1 ⟨s1, e0, rfl, g0⟩
  refine Bc (fun σ' H' => H' = H1 /\ σ' = [some (.ref a), some (.ref b), some (.ref e0), some (.ref a), none, none, none]) (fun N hN => ?_) ?_
  . contradiction
    exact hN _ _ ⟨rfl, rfl⟩
  rintro σ H2 ⟨rfl, rfl⟩
  refine Bc (fun σ' H' => Same H H' /\ ∃ (c d : V) (u r : List Int) (o4 o5 o6 : Option V), σ' = [some (.ref a), some (.ref b), some c, some d, o4, o5, o6] /\ Po K H' c u l (B L) /\ Po K H' d r l (B L) /\ (∀ k, lc ^ L * co p k = mu u (co q) k + co r k) /\ (∀ k, p.length - L <= k -> co r k = 0) /\ ∀ k, L <= k -> co u k = 0) (fun N hN => ?_) ?_
  . rw [Iz]
    contradiction
    refine Cd hx s1 ?_
    try contradiction
    refine Cd hy s1 ?_
    try contradiction
    refine ⟨by omega, ?_⟩
    have en : ((p.length : Int) - 1 - ((q.length : Int) - 1) - -1).toNat = L := by omega
    refine Ai1 L (fun i => .int ((p.length : Int) - 1 - ((q.length : Int) - 1) - (i : Nat))) (fun i σ' H' => Same H H' /\ ∃ (c d : V) (u r : List Int) (o4 o5 o6 : Option V), σ' = [some (.ref a), some (.ref b), some c, some d, o4, o5, o6] /\ Po K H' c u l (B i) /\ Po K H' d r l (B i) /\ (∀ k, lc ^ i * co p k = mu u (co q) k + co r k) /\ (∀ k, p.length - i <= k -> co r k = 0) /\ ∀ k, L <= k -> co u k = 0) ?_ ?_ ?_ ?_
    . refine ⟨s1, _, _, [], p, _, _, _, rfl, ⟨⟨e0, rfl, .of g0⟩, .inl rfl, Nat.zero_le _, fun i => by rw [Ay, B0]; exact (zp p.length).of_abs (by simp)⟩, by rw [B0]; exact hx.mono s1, fun t => ?_, fun t ht => Bk (by omega), fun t _ => Ay t⟩
      rw [Int.pow_zero, Int.one_mul]
      show _ = 0 + co p t
      omega
    . intro i σ' H' _
      rw [en]
      exact Qc
    . rintro i σ' H5 hi ⟨s5, c, d, u, r, o4, o5, o6, rfl, ic, ir, he, hr0, hu0⟩
      obtain ⟨j, hj⟩ : ∃ j : Nat, j + 1 = L - i := ⟨L - i - 1, by omega⟩
      have pj : (p.length : Int) - 1 - ((q.length : Int) - 1) - (i : Nat) = (j : Int) := by omega
      rw [Dh, pj]
      simp only [List.set_cons_succ, List.set_cons_zero]
      have ix : (j : Int) + ((q.length : Int) - 1) = ((j + (q.length - 1) : Nat) : Int) := by omega
      obtain ⟨e, he'⟩ : ∃ e, e = j + (q.length - 1) := ⟨_, rfl⟩
      rw [<- he'] at ix
      obtain ⟨tp', htp⟩ : ∃ t, t = co r e := ⟨_, rfl⟩
      have Bi := Bn i (by omega)
      have Bs := B1 i
      have zt : Sz (B i) tp' := by rw [htp]; exact ir.2.2.2 e
      have zl : Sz n lc := by rw [hlc]; exact zq _
      refine Bc (fun σ' H' => H' = H5 /\ σ' = [some (.ref a), some (.ref b), some c, some d, some (.int j), some (.int tp'), o6]) (fun N hN => ?_) ?_
      . contradiction
        refine Cd hy s5 ?_
        simp only [K7, Gp, K4, Lg, Gn, Kz, Dh, Ky, Gq, Fx, z_c, U8, V0, Vw, Ld, Vy, K8, Le, K6, Lb, Et, Vz, Ku, Lk, Ko, Gi, Fw, K5, Lw, Vr, Fp, Ls, Ge, V1, Gz, Lj, Gm, Vu, Ly, K1, Dw, Fl, Gd, Fi, Dz, Fo, Lx, Lf, Ln, Iz, Vx, Cz, Gh, K9, V2, Ks, Gs, Lp, Kv, Gv, Kr, Gf, Fq, Gx, Eb, Lr, Dy, Fv, Gj, Ga, Ea, Kq, Gk, Lh, Gu, Fy, Fj, Du, Gw, Vs, cpσ, List.getElem?_cons_zero, List.getElem?_cons_succ, Option.join_some, List.set_cons_zero, List.set_cons_succ, List.append_nil, decide_eq_true_eq, Bool.not_eq_true', decide_eq_false_iff_not, Bool.not_not, ite_not, Bool.false_eq_true, Bool.true_eq_false, if_false, if_true, if_pos, List.length_cons, List.length_nil, Nat.zero_add, Nat.reduceAdd, Gy, Gg, true_and, and_true, L2.start, List.map_cons, List.map_nil, Bool.not_true, Bool.not_false, Nat.reduceSub, List.replicate_succ, List.replicate_zero, List.cons_append, List.nil_append, ix]
        obtain ⟨⟨dr, rfl, hdr⟩, _, lr, _⟩ := id ir
        refine ⟨dr, _, rfl, .inr hdr, ?_⟩
        try contradiction
        rw [List.length_map]
        split
        . rename_i h
          have h' : e < r.length := by omega
          refine Cd hy s5 ?_
          simp only [K7, Gp, K4, Lg, Gn, Kz, Dh, Ky, Gq, Fx, z_c, U8, V0, Vw, Ld, Vy, K8, Le, K6, Lb, Et, Vz, Ku, Lk, Ko, Gi, Fw, K5, Lw, Vr, Fp, Ls, Ge, V1, Gz, Lj, Gm, Vu, Ly, K1, Dw, Fl, Gd, Fi, Dz, Fo, Lx, Lf, Ln, Iz, Vx, Cz, Gh, K9, V2, Ks, Gs, Lp, Kv, Gv, Kr, Gf, Fq, Gx, Eb, Lr, Dy, Fv, Gj, Ga, Ea, Kq, Gk, Lh, Gu, Fy, Fj, Du, Gw, Vs, cpσ, List.getElem?_cons_zero, List.getElem?_cons_succ, Option.join_some, List.set_cons_zero, List.set_cons_succ, List.append_nil, decide_eq_true_eq, Bool.not_eq_true', decide_eq_false_iff_not, Bool.not_not, ite_not, Bool.false_eq_true, Bool.true_eq_false, if_false, if_true, if_pos, List.length_cons, List.length_nil, Nat.zero_add, Nat.reduceAdd, Gy, Gg, true_and, and_true, L2.start, List.map_cons, List.map_nil, Bool.not_true, Bool.not_false, Nat.reduceSub, List.replicate_succ, List.replicate_zero, List.cons_append, List.nil_append, ix]
          refine Ce hdr (v := .int tp') (by rw [htp, Cp h']; exact Jz (G9 h')) ?_
          try contradiction
          exact hN _ _ ⟨rfl, rfl⟩
        . rename_i h
          have : tp' = 0 := by rw [htp]; exact Bk (by omega)
          rw [this] at hN
          exact hN _ _ ⟨rfl, rfl⟩
      rintro σ' H6 ⟨rfl, rfl⟩
      refine Bc (fun σ' H' => Same H6 H' /\ ∃ tv : V, σ' = [some (.ref a), some (.ref b), some c, some d, some (.int j), some (.int tp'), some tv] /\ Po K H' tv (rs (trim [tp']) j) l (B i)) (fun N hN => ?_) ?_
      . contradiction
        intro p1 hp1
        have s6 := Same.upd hp1 (.tup [V.int tp'])
        refine ⟨p1, [tp'], rfl, .inr (.of Af), by simp, fun z H7 s7 h7 => ?_⟩
        try contradiction
        have it : Po K H7 (.ref z) (trim [tp']) 1 (B i) := ⟨⟨z, rfl, h7⟩, Av _, Nat.le_trans (Hu _) (by simp), fun t => by
          rw [Am, Aen]
          split
          . exact zt
          . exact zt.of_abs (by simp)⟩
        refine ⟨_, j, _, 1, B i, rfl, it, by omega, by decide, fun z2 H8 s8 h8 => hN _ _ ⟨(s6.trans s7).trans s8, _, rfl, ⟨⟨z2, rfl, h8⟩, Ajj (Av _) j, ?_, fun t => ?_⟩⟩⟩
        . have h1 := Ahm (trim [tp']) j
          have h2 := it.2.2.1
          omega
        . rw [Agq]
          split
          . exact it.2.2.2 _
          . exact zt.of_abs (by simp)
      rintro σ' H7 ⟨s7, tv, rfl, it⟩
      have s57 := s5.trans s7
      refine Bc (fun σ' H' => Same H7 H' /\ ∃ cv : V, σ' = [some (.ref a), some (.ref b), some cv, some d, some (.int j), some (.int tp'), some tv] /\ Po K H' cv (ta (ng u lc) (rs (trim [tp']) j)) l (B (i + 1))) (fun N hN => ?_) ?_
      . contradiction
        refine Ce (s57.tup hb) (Hi hq) ?_
        rw [<- hlc]
        try contradiction
        refine ⟨c, lc, u, l, B i, n, rfl, ic.mono s7, zl, by omega, by omega, fun z H8 s8 i8 => ?_⟩
        try contradiction
        refine ⟨z, tv, _, _, l, l, B i + n, B i, rfl, i8, it.mono s8, by omega, by omega, trivial, fun w H9 s9 i9 => hN _ _ ⟨s8.trans s9, w, rfl, ⟨i9.1, i9.2.1, Nat.le_trans i9.2.2.1 (by omega), fun t => (i9.2.2.2 t).mono (by omega)⟩⟩⟩
      rintro σ' H8 ⟨s8, cv, rfl, icv⟩
      contradiction
      refine Ce ((s57.trans s8).tup hb) (Hi hq) ?_
      rw [<- hlc]
      try contradiction
      refine ⟨d, lc, r, l, B i, n, rfl, ir.mono (s7.trans s8), zl, by omega, by omega, fun z H9 s9 i9 => ?_⟩
      try contradiction
      refine ⟨tv, .ref b, _, q, l, l, B i, n, rfl, it.mono (s8.trans s9), hy.mono ((s57.trans s8).trans s9), by omega, by omega, by omega, fun w Ha sa ia => ?_⟩
      try contradiction
      refine ⟨z, w, _, _, l, l + l, B i + n, B i + n + l, rfl, i9.mono sa, ia, by omega, by omega, by omega, fun v Hb sb ib => ?_⟩
      try contradiction
      have rco : ∀ t, co (ta (ng r lc) (ng (tm (rs (trim [tp']) j) q) (-1))) t = co r t * lc - (if j <= t then tp' * co q (t - j) else 0) := fun t => by
        rw [Ra, O9, O9, Bv, Aas]
        omega
      have r0 : ∀ t, p.length - (i + 1) <= t -> co (ta (ng r lc) (ng (tm (rs (trim [tp']) j) q) (-1))) t = 0 := fun t ht => by
        rw [rco, if_pos (by omega)]
        by_cases h : t = e
        . rw [h, <- htp, he', show j + (q.length - 1) - j = q.length - 1 by omega, hlc]
          omega
        . rw [hr0 t (by omega), Bk (p := q) (by omega)]
          simp
      refine ⟨((((s57.trans s8).trans s9).trans sa).trans sb), cv, v, _, _, _, _, _, rfl, icv.mono ((s9.trans sa).trans sb), ⟨ib.1, ib.2.1, ?_, fun t => (ib.2.2.2 t).mono (by omega)⟩, fun t => ?_, r0, fun t ht => ?_⟩
      . refine Nat.le_trans (ib.2.1.len (q := (ta (ng r lc) (ng (tm (rs (trim [tp']) j) q) (-1))).take l) fun t => ?_) (List.length_take_le _ _)
        rw [Ie]
        split
        . rfl
        . exact r0 t (by omega)
      . rw [rco, <- Bv, Int.pow_succ]
        have e1 : co (tm (ta (ng u lc) (rs (trim [tp']) j)) q) t = mu u (co q) t * lc + (if j <= t then tp' * co q (t - j) else 0) := by
          rw [Bq, Aj8, Ra, Bq q (rs (trim [tp']) j), Bv (rs (trim [tp']) j), Aas, Bv, Fe]
          congr 1
          have e2 : mu (ng u lc) (co q) t = mu (u.map (lc * ·)) (co q) t := congrFun (Bm (co q) _ _ fun k => by rw [O9, Bw, Int.mul_comm]) t
          rw [e2, Jp, Int.mul_comm]
        rw [e1]
        have := he t
        have e3 : lc ^ i * lc * co p t = (lc ^ i * co p t) * lc := by grind
        rw [e3, this]
        grind
      . rw [Ra, O9, hu0 t ht, Agq]
        split
        . rw [Am, Aen, if_neg (by omega)]
          simp
        . simp
    . rintro σ' H5 ⟨s5, c, d, u, r, o4, o5, o6, rfl, ic, ir, he, hr0, hu0⟩
      exact hN _ _ ⟨s5, c, d, u, r, o4, o5, o6, rfl, ic, ir, he, hr0, hu0⟩
  rintro σ H5 ⟨s5, c, d, u, r, o4, o5, o6, rfl, ic, ir, he, hr0, hu0⟩
  have BL := Bn L (by omega)
  contradiction
  intro z hz
  have s6 := Same.upd hz (.tup [c, d])
  have big : ∀ {v : V} {f : List Int}, Po K H5 v f l (B L) -> Po K (upd H5 z (.tup [c, d])) v f l BIG := fun h => ⟨(h.mono s6).1, h.2.1, h.2.2.1, fun t => (h.2.2.2 t).mono (by omega)⟩
  refine k z _ c d u r (s5.trans s6) (.of Af) (big ic) (big ir) (by rw [<- hlc, <- hL]; exact he) ?_ ?_
  . have h := ir.2.1.len (q := r.take (q.length - 1)) fun t => by
      rw [Ie]
      split
      . rfl
      . exact hr0 t (by omega)
    rw [List.length_take] at h
    omega
  . have h := ic.2.1.len (q := u.take L) fun t => by
      rw [Ie]
      split
      . rfl
      . exact hu0 t (by omega)
    rw [List.length_take] at h
    omega
def RwV (K : PySem.W.Frag) (H : Hp) (vs : List V) (fs : List (List Int)) (l n : Nat) : Prop := vs.length = fs.length /\ ∀ c, c < fs.length -> Po K H (vs.getD c .non) (fs.getD c []) l n
def Rw (K : PySem.W.Frag) (H : Hp) (x : V) (fs : List (List Int)) (l n : Nat) : Prop := ∃ a vs, x = .ref a /\ SqT K H a vs /\ RwV K H vs fs l n
theorem RwV.mono {H H' : Hp} {vs : List V} {fs : List (List Int)} {l n : Nat} (h : RwV K H vs fs l n) (s : Same H H') : RwV K H' vs fs l n := ⟨h.1, fun c hc => (h.2 c hc).mono s⟩
theorem Rw.mono {H H' : Hp} {x : V} {fs : List (List Int)} {l n : Nat} (h : Rw K H x fs l n) (s : Same H H') : Rw K H' x fs l n := by
  obtain ⟨a, vs, e, t, r⟩ := h
  exact ⟨a, vs, e, s.tup t, r.mono s⟩
theorem getD_at {vs : List V} {j : Nat} (h : j < vs.length) : atI vs ((j : Nat) : Int) = some (vs.getD j .non) := Jz (by rw [List.getD_eq_getElem?_getD, List.getElem?_eq_getElem h]; rfl)
def NrR (K : PySem.W.Frag) (fs gs : List (List Int)) (β : Int) (l : Nat) (Q : VK) (H : Hp) : Prop := ∀ (z : V) (H' : Hp) (ts : List (List Int)) (u r : List Int), Same H H' -> Rw K H' z ts (2 * l) (2 * BIG) -> ts.length = fs.length ->
  (∀ k, co (gs.getD 0 []) ((gs.getD 0 []).length - 1) ^ ((fs.getD 0 []).length - (gs.getD 0 []).length + 1) * co (fs.getD 0 []) k = mu u (co (gs.getD 0 [])) k + co r k) -> r.length < (gs.getD 0 []).length -> u.length <= (fs.getD 0 []).length - (gs.getD 0 []).length + 1 ->
  (∀ c, c < fs.length -> ∀ i, co (gs.getD 0 []) ((gs.getD 0 []).length - 1) ^ ((fs.getD 0 []).length - (gs.getD 0 []).length + 1) * co (fs.getD c []) i = β * co (ts.getD c []) i + mu u (co (gs.getD c [])) i) -> Q z H'
def NrE (fs gs : List (List Int)) (β : Int) : Prop := ∀ (u r : List Int), (∀ k, co (gs.getD 0 []) ((gs.getD 0 []).length - 1) ^ ((fs.getD 0 []).length - (gs.getD 0 []).length + 1) * co (fs.getD 0 []) k = mu u (co (gs.getD 0 [])) k + co r k) -> r.length < (gs.getD 0 []).length -> u.length <= (fs.getD 0 []).length - (gs.getD 0 []).length + 1 ->
  ∀ c, c < fs.length -> ∀ i, β ∣ co (gs.getD 0 []) ((gs.getD 0 []).length - 1) ^ ((fs.getD 0 []).length - (gs.getD 0 []).length + 1) * co (fs.getD c []) i - mu u (co (gs.getD c [])) i
def Mu (K : PySem.W.Frag) : Sp := fun vs H Q _ => ∃ (x y : V) (β : Int) (fs gs : List (List Int)) (l n : Nat), vs = [x, y, .int β] /\ Rw K H x fs l n /\ Rw K H y gs l n /\ gs.length = fs.length /\ 1 <= fs.length /\ fs.length <= 3 /\ l <= 60 /\ n <= 8000 /\ gs.getD 0 [] ≠ [] /\ (gs.getD 0 []).length <= (fs.getD 0 []).length /\ (fs.getD 0 []).length <= (gs.getD 0 []).length + 38 /\ β ≠ 0 /\ Sz 8000 β /\ NrE fs gs β /\ NrR K fs gs β l Q H
theorem Oh {d : Int} (p : List Int) (i : Nat) : co (p.map fun x => x.fdiv d) i = (co p i).fdiv d := Qg (f := fun x => x.fdiv d) (Int.zero_fdiv d) p i
theorem Q8 {x d : Int} (h0 : d ≠ 0) (h : d ∣ x) : d * x.fdiv d = x := by
  obtain ⟨k, rfl⟩ := h
  rw [Int.mul_fdiv_cancel_left _ h0]
theorem Tn {p : List Int} {d : Int} (h0 : d ≠ 0) (tp : Tr p) (h : ∀ i, d ∣ co p i) : Tr (p.map fun x => x.fdiv d) := by
  by_cases n : p = []
  . subst n; exact .inl rfl
  . refine Tr.of (.inr ?_)
    rw [List.length_map, Oh]
    intro z
    have := Q8 h0 (h (p.length - 1))
    rw [z, Int.mul_zero] at this
    exact tp.lead n this.symm
theorem Aan {n : Nat} {x d : Int} (h0 : d ≠ 0) (h : d ∣ x) (z : Sz n x) : Sz n (x.fdiv d) := z.of_abs (by
  have := congrArg Int.natAbs (Q8 h0 h)
  rw [Int.natAbs_mul] at this
  have hd := Int.natAbs_pos.mpr h0
  have := Nat.le_mul_of_pos_left (x.fdiv d).natAbs hd
  omega)
theorem Wf {f : Addr} {fd : FuncData} (F : Df K mg "next_row" Od ["first", "second", "known"] f fd) (z_zip : mg "zip" = none) (z_tuple : mg "tuple" = none)  (c_whole_power : Cal P w K mg base 4 "whole_power" ["number", "many"] (Di K)) (c_scaled_division : Cal P w K mg base 5 "scaled_division" ["one", "other"] (Hs K)) (c_shrunk : Cal P w K mg base 1 "shrunk" ["one", "number"] (Ij K)) (c_degree : Cal P w K mg base 1 "degree" ["one"] (Dq K)) (c_p_minus : Cal P w K mg base 4 "p_minus" ["one", "other"] (Nu K)) (c_scaled : Cal P w K mg base 1 "scaled" ["one", "factor"] (Ew K)) (c_p_times : Cal P w K mg base 1 "p_times" ["one", "other"] (Ds K)) : Cal P w K mg base 6 "next_row" ["first", "second", "known"] (Mu K) := by
  refine F.cal (F.fn.ok Ef (fun vs H Q E h => ?_) (fun cdv A outer s H vs Q E hr h => ?_))
  . obtain ⟨x, y, β, fs, gs, _, _, rfl, _⟩ := h
    rfl
  obtain ⟨x, y, β, fs, gs, l, n, rfl, ⟨a, vs, rfl, ha, hvl, hv⟩, ⟨b, ws, rfl, hb, hwl, hw⟩, hgf, hf1, hf3, hl, hn, hg0, hgl, hd38, β0, βz, ex, k⟩ := h
  have bigE := Xm
  have p0 := hv 0 (by omega)
  have q0 := hw 0 (by omega)
  have hq0 := hg0
  have gl0 : 0 < (gs.getD 0 []).length := List.length_pos_iff.mpr hg0
  obtain ⟨L, hL⟩ : ∃ L, L = co (gs.getD 0 []) ((gs.getD 0 []).length - 1) ^ ((fs.getD 0 []).length - (gs.getD 0 []).length + 1) := ⟨_, rfl⟩
  have ld0 : co (gs.getD 0 []) ((gs.getD 0 []).length - 1) ≠ 0 := q0.2.1.lead hg0
  obtain ⟨⟨b0, eb0, hb0⟩, _⟩ := id q0
  obtain ⟨⟨a0, ea0, ha0⟩, _⟩ := id p0
  have atF : atI vs 0 = some (vs.getD 0 .non) := getD_at (j := 0) (by omega)
  have atG : atI ws 0 = some (ws.getD 0 .non) := getD_at (j := 0) (by omega)
  have LS : Sz (n * ((fs.getD 0 []).length - (gs.getD 0 []).length + 1) + 1) L := by rw [hL]; exact Xp (q0.2.2.2 _) _
  have hN : n * ((fs.getD 0 []).length - (gs.getD 0 []).length + 1) <= 8000 * 39 := Nat.mul_le_mul hn (by omega)
  refine S.Bd ⟨_, (S.Ac (S.Ah (i := 3) Ef.nd rfl (Or.inl rfl) (S.Ai c_whole_power (hr.mono (by decide)) (S.Aa (S.Bo Az (S.Bo Az (S.pv 1) S.Ad (fun _ _ => rfl)) (S.Dr Ci S.Ad) (fun _ _ => rfl)) (S.Aa (S.Ak Cw (S.Ak Ej (S.Ai c_degree (hr.mono (by decide)) (S.Aa (S.Bo Az (S.pv 0) S.Ad (fun _ _ => rfl)) S.Ab)) (S.Ai c_degree (hr.mono (by decide)) (S.Aa (S.Bo Az (S.pv 1) S.Ad (fun _ _ => rfl)) S.Ab))) S.Ad) S.Ab))))
      (S.Ac (S.Es (S.Ai c_scaled_division (hr.mono (by decide)) (S.Aa (S.Bo Az (S.pv 0) S.Ad (fun _ _ => rfl)) (S.Aa (S.Bo Az (S.pv 1) S.Ad (fun _ _ => rfl)) S.Ab))) (S.Fz rfl (S.Bl (S.Ax (i := 5) Ef.nd rfl (Or.inl rfl)) (S.Bl (S.Ax (i := 6) Ef.nd rfl (Or.inl rfl)) S.Ek))))
      (S.Ac (S.Ah (i := 4) Ef.nd rfl (Or.inl rfl) (S.Ht (S.Aa (S.Ai c_shrunk (hr.mono (by decide)) (S.Aa (S.pv 6) (S.Aa (S.pv 2) S.Ab))) S.Ab)))
      (S.Ac (S.Ey PassesOwn.never rfl (S.Qq true true rfl z_zip (S.Aa (S.Kf Td (S.pv 0) (S.Og S.Ad) S.N5) (S.Aa (S.Kf Td (S.pv 1) (S.Og S.Ad) S.N5) S.Ab))) (S.Fz rfl (S.Bl (S.Ax (i := 7) Ef.nd rfl (Or.inl rfl)) (S.Bl (S.Ax (i := 8) Ef.nd rfl (Or.inl rfl)) S.Ek))) (S.Ae (S.Oc (S.Rv PySem.F.plainAttrs_list PySem.F.slot_list_append PySem.F.type_list_append M8 (S.pv 4) (S.Aa (S.Ai c_shrunk (hr.mono (by decide)) (S.Aa (S.Ai c_p_minus (hr.mono (by decide)) (S.Aa (S.Ai c_scaled (hr.mono (by decide)) (S.Aa (S.pv 7) (S.Aa (S.pv 3) S.Ab))) (S.Aa (S.Ai c_p_times (hr.mono (by decide)) (S.Aa (S.pv 5) (S.Aa (S.pv 8) S.Ab))) S.Ab))) (S.Aa (S.pv 2) S.Ab))) S.Ab)))))
      (S.Ae (S.Al (S.Ft El rfl z_tuple PyProof.Rows.boot_tuple (S.Aa (S.pv 4) S.Ab)))))))), ?_⟩
  refine Bc (fun σ' H' => Same H H' /\ σ' = [some (.ref a), some (.ref b), some (.int β), some (.int L), none, none, none, none, none]) (fun N hN => ?_) ?_
  . contradiction
    refine Ce hb atG ?_
    rw [eb0]
    refine Ce hb0 (Hi hg0) ?_
    try contradiction
    refine Ce ha atF ?_
    refine Cd p0 (Same.refl _) ?_
    try contradiction
    refine Ce hb atG ?_
    refine Cd q0 (Same.refl _) ?_
    try contradiction
    refine Vo (m := (fs.getD 0 []).length - (gs.getD 0 []).length + 1) (by omega) ld0 (q0.2.2.2 _) (by omega) (by omega) fun H' s' => ?_
    rw [<- hL]
    exact hN _ _ ⟨s', rfl⟩
  rintro σ H1 ⟨s1, rfl⟩
  refine Bc (fun σ' H' => Same H H' /\ ∃ (c d : V) (u r : List Int), σ' = [some (.ref a), some (.ref b), some (.int β), some (.int L), none, some c, some d, none, none] /\ Po K H' c u l BIG /\ Po K H' d r l BIG /\ (∀ k, L * co (fs.getD 0 []) k = mu u (co (gs.getD 0 [])) k + co r k) /\ r.length < (gs.getD 0 []).length /\ u.length <= (fs.getD 0 []).length - (gs.getD 0 []).length + 1) (fun N hN => ?_) ?_
  . contradiction
    refine Ce (s1.tup ha) atF (Ce (s1.tup hb) atG ?_)
    refine ⟨_, _, fs.getD 0 [], gs.getD 0 [], l, n, rfl, p0.mono s1, q0.mono s1, hl, by omega, hg0, hgl, fun z H2 c d u r s2 hz ic id he hlr hlu => ?_⟩
    refine Ir hz ?_
    exact hN _ _ ⟨s1.trans s2, c, d, u, r, rfl, ic, id, by rw [hL]; exact he, hlr, hlu⟩
  rintro σ H2 ⟨s2, c, d, u, r, rfl, ic, ir, he, hlr, hlu⟩
  rw [hL] at he
  have ex' := ex u r he hlr hlu
  rw [<- hL] at ex' he
  obtain ⟨T, hT⟩ : ∃ T : Nat -> List Int, T = fun c => (trim (al ((fs.getD c []).map (L * ·)) ((ml u (gs.getD c [])).map (-1 * ·)))).map fun x => x.fdiv β := ⟨_, rfl⟩
  have R0 : ∀ c i, co (trim (al ((fs.getD c []).map (L * ·)) ((ml u (gs.getD c [])).map (-1 * ·)))) i = L * co (fs.getD c []) i - mu u (co (gs.getD c [])) i := fun c i => by
    rw [Am, Rh, Bw, Bw, O7]
    omega
  have Tco : ∀ c, c < fs.length -> ∀ i, β * co (T c) i = L * co (fs.getD c []) i - mu u (co (gs.getD c [])) i := fun c hc i => by
    rw [hT]
    show β * co (List.map _ _) i = _
    rw [Oh, R0]
    exact Q8 β0 (ex' c hc i)
  refine Bc (fun σ' H' => Same H H' /\ ∃ (t3 : Addr) (z0 : V), σ' = [some (.ref a), some (.ref b), some (.int β), some (.int L), some (.ref t3), some c, some d, none, none] /\ H t3 = none /\ Po K H' c u l BIG /\ H' t3 = some (.lst [z0]) /\ Po K H' z0 (T 0) (2 * l) (2 * BIG)) (fun N hN => ?_) ?_
  . contradiction
    obtain ⟨⟨dr, rfl, hdr⟩, tr, lr, zr⟩ := id ir
    have er : r = trim (al ((fs.getD 0 []).map (L * ·)) ((ml u (gs.getD 0 [])).map (-1 * ·))) := tr.ext (Av _) fun i => by rw [R0, he]; omega
    have dv : ∀ i, β ∣ co r i := fun i => by rw [er, R0]; exact ex' 0 (by omega) i
    refine ⟨dr, r, β, rfl, hdr, by omega, fun _ => ⟨β0, βz⟩, fun z H3 s3 h3 => ?_⟩
    try contradiction
    intro t3 ht3
    have st := Same.upd ht3 (.lst [V.ref z])
    have eT : T 0 = r.map fun x => x.fdiv β := by rw [hT, er]
    refine hN _ _ ⟨(s2.trans s3).trans st, t3, _, rfl, Same.free (s2.trans s3) ht3, ic.mono (s3.trans st), Af, ⟨⟨z, rfl, by rw [eT]; exact st.tup h3⟩, by rw [eT]; exact Tn β0 tr dv, by rw [eT, List.length_map]; omega, fun i => ?_⟩⟩
    rw [eT, Oh]
    exact (Aan β0 (dv i) (zr i)).mono (by omega)
  rintro σ H3 ⟨s3, t3, z0, rfl, nt3, ic3, g3, i0⟩
  refine Bc (fun σ' H' => Same H H' /\ ∃ (zs : List V) (o7 o8 : Option V), σ' = [some (.ref a), some (.ref b), some (.int β), some (.int L), some (.ref t3), some c, some d, o7, o8] /\ H' t3 = some (.lst zs) /\ zs.length = fs.length /\ ∀ j, j < fs.length -> Po K H' (zs.getD j .non) (T j) (2 * l) (2 * BIG)) (fun N hN => ?_) ?_
  . contradiction
    have cutA : T8 vs (some 1) none = vs.drop 1 := by
      unfold T8
      rw [show (1 : Int) = ((1 : Nat) : Int) from rfl, HT.Pa, HT.V5, Nat.min_eq_left (by omega), List.take_of_length_le (by simp)]
    have cutB : T8 ws (some 1) none = ws.drop 1 := by
      unfold T8
      rw [show (1 : Int) = ((1 : Nat) : Int) from rfl, HT.Pa, HT.V5, Nat.min_eq_left (by omega), List.take_of_length_le (by simp)]
    refine ⟨a, vs, rfl, s3.tup ha, fun ca H4 s4 h4 => ?_⟩
    try contradiction
    refine ⟨b, ws, rfl, (s3.trans s4).tup hb, fun cb H5 s5 h5 => ?_⟩
    rw [cutA] at h4
    rw [cutB] at h5
    try contradiction
    refine ⟨ca, cb, rfl, ⟨_, s5.tup h4⟩, ⟨_, h5⟩, ?_⟩
    refine Age (xs := vs.drop 1) (ys := ws.drop 1) (fs.length - 1) (by rw [List.length_drop, List.length_drop]; omega) (fun i σ' H' => Same H H' /\ SqT K H' ca (vs.drop 1) /\ SqT K H' cb (ws.drop 1) /\ Po K H' c u l BIG /\ ∃ (zs : List V) (o7 o8 : Option V), σ' = [some (.ref a), some (.ref b), some (.int β), some (.int L), some (.ref t3), some c, some d, o7, o8] /\ H' t3 = some (.lst zs) /\ zs.length = i + 1 /\ ∀ j, j < i + 1 -> Po K H' (zs.getD j .non) (T j) (2 * l) (2 * BIG)) ?_ ?_ ?_ ?_
    . refine ⟨(s3.trans s4).trans s5, s5.tup h4, h5, ic3.mono (s4.trans s5), [z0], _, _, rfl, (s4.trans s5) _ _ g3, rfl, fun j hj => ?_⟩
      have : j = 0 := by omega
      subst this
      exact i0.mono (s4.trans s5)
    . rintro i σ' H' ⟨_, x1, x2, _⟩
      exact ⟨x1, x2⟩
    . rintro i σ' H6 p6 hi ⟨s6, x1, x2, ic6, zs, o7, o8, rfl, g6, hzl, hz⟩ hp6
      refine Ir (.of Af) ?_
      have s7 := Same.upd hp6 (.tup [(vs.drop 1).getD i .non, (ws.drop 1).getD i .non])
      have ev : (vs.drop 1).getD i .non = vs.getD (i + 1) .non := by
        rw [List.getD_eq_getElem?_getD, List.getD_eq_getElem?_getD, List.getElem?_drop, Nat.add_comm]
      have ew : (ws.drop 1).getD i .non = ws.getD (i + 1) .non := by
        rw [List.getD_eq_getElem?_getD, List.getD_eq_getElem?_getD, List.getElem?_drop, Nat.add_comm]
      rw [ev, ew] at s7 ⊢
      generalize upd H6 p6 (.tup [vs.getD (i + 1) .non, ws.getD (i + 1) .non]) = H7 at *
      have iu := (hv (i + 1) (by omega)).mono (s6.trans s7)
      have iw := (hw (i + 1) (by omega)).mono (s6.trans s7)
      have g7 := s7 _ _ g6
      try contradiction
      refine ⟨.inl ⟨rfl, _, .of g7⟩, ?_⟩
      refine ⟨_, L, fs.getD (i + 1) [], l, n, _, rfl, iu, LS, by omega, by omega, fun w1 H8 s8 i8 => ?_⟩
      try contradiction
      refine ⟨c, _, u, gs.getD (i + 1) [], l, l, BIG, n, rfl, ic6.mono (s7.trans s8), iw.mono s8, by omega, by omega, by omega, fun w2 H9 s9 i9 => ?_⟩
      try contradiction
      refine ⟨w1, w2, _, _, _, _, _, _, rfl, i8.mono s9, i9, by omega, by omega, by omega, fun w3 Ha sa ia => ?_⟩
      try contradiction
      have er : ta (ng (fs.getD (i + 1) []) L) (ng (tm u (gs.getD (i + 1) [])) (-1)) = trim (al ((fs.getD (i + 1) []).map (L * ·)) ((ml u (gs.getD (i + 1) [])).map (-1 * ·))) := (W0 _ _).ext (Av _) fun t => by
        rw [R0, Ra, O9, O9, Bv]
        grind
      obtain ⟨⟨wr, rfl, hwr⟩, tr, lr, zr⟩ := id ia
      have dv : ∀ t, β ∣ co (ta (ng (fs.getD (i + 1) []) L) (ng (tm u (gs.getD (i + 1) [])) (-1))) t := fun t => by rw [er, R0]; exact ex' (i + 1) (by omega) t
      refine ⟨wr, _, β, rfl, hwr, by omega, fun _ => ⟨β0, βz⟩, fun z Hb sb hb' => ?_⟩
      have t7 := ((s8.trans s9).trans sa).trans sb
      have gb := t7 _ _ g7
      try contradiction
      refine ⟨t3, _, _, rfl, rfl, gb, by rw [hzl]; exact Nat.lt_of_lt_of_le (show i + 1 < 1000 by omega) (by decide), ?_⟩
      have nT := ((s6.trans s7).trans t7)
      have sput : Same H (upd Hb t3 (.lst (zs ++ [V.ref z]))) := nT.put nt3
      have keep : ∀ {v : V} {f : List Int} {x y : Nat}, Po K Hb v f x y -> Po K (upd Hb t3 (.lst (zs ++ [V.ref z]))) v f x y := fun h => ⟨by
        obtain ⟨q, e, t⟩ := h.1
        exact ⟨q, e, Wu t gb⟩, h.2⟩
      have eT : T (i + 1) = (ta (ng (fs.getD (i + 1) []) L) (ng (tm u (gs.getD (i + 1) [])) (-1))).map fun x => x.fdiv β := by rw [hT, er]
      refine ⟨sput, Wu ((s7.trans t7).tup x1) gb, Wu ((s7.trans t7).tup x2) gb, keep (ic6.mono (s7.trans t7)), zs ++ [V.ref z], _, _, rfl, Af, by rw [List.length_append, hzl]; rfl, fun j hj => ?_⟩
      by_cases hj2 : j = i + 1
      . subst hj2
        have e1 : (zs ++ [V.ref z]).getD (i + 1) .non = V.ref z := by
          rw [List.getD_eq_getElem?_getD, List.getElem?_append_right (by omega), hzl, Nat.sub_self]
          rfl
        rw [e1]
        refine keep ⟨⟨z, rfl, by rw [eT]; exact hb'⟩, by rw [eT]; exact Tn β0 tr dv, by rw [eT, List.length_map]; omega, fun t => ?_⟩
        rw [eT, Oh]
        exact (Aan β0 (dv t) (zr t)).mono (by omega)
      . have e1 : (zs ++ [V.ref z]).getD j .non = zs.getD j .non := by
          rw [List.getD_eq_getElem?_getD, List.getElem?_append_left (by omega), <- List.getD_eq_getElem?_getD]
        rw [e1]
        exact keep ((hz j (by omega)).mono (s7.trans t7))
    . rintro σ' H6 ⟨s6, _, _, _, zs, o7, o8, rfl, g6, hzl, hz⟩
      exact hN _ _ ⟨s6, zs, o7, o8, rfl, g6, by omega, fun j hj => hz j (by omega)⟩
  rintro σ H4 ⟨s4, zs, o7, o8, rfl, g4, hzl, hz⟩
  contradiction
  refine ⟨t3, zs, rfl, .inl ⟨.of g4, fun z hz' => ?_⟩⟩
  have s5 := Same.upd hz' (.tup zs)
  refine k _ _ ((List.range fs.length).map T) u r (s4.trans s5) ⟨z, zs, rfl, .of Af, by rw [List.length_map, List.length_range]; exact hzl, fun j hj => ?_⟩ (by rw [List.length_map, List.length_range]) (by rw [<- hL]; exact he) hlr hlu fun j hj i => ?_
  . rw [List.length_map, List.length_range] at hj
    have e : ((List.range fs.length).map T).getD j [] = T j := by
      rw [List.getD_eq_getElem?_getD, List.getElem?_map, List.getElem?_range hj]
      rfl
    rw [e]
    exact (hz j hj).mono s5
  . have e : ((List.range fs.length).map T).getD j [] = T j := by
      rw [List.getD_eq_getElem?_getD, List.getElem?_map, List.getElem?_range hj]
      rfl
    rw [e, <- hL, Tco j hj i]
    omega
def Mq (fs : List (List Int)) : Nat -> Nat -> Int := fun c i => co (fs.getD c []) i
def Keeps (s : Nat) (B : List (List Int) -> Prop) : Prop := ∀ (f g t : List (List Int)) (u : List Int) (L β : Int), β ≠ 0 -> f.length = s -> g.length = s -> t.length = s -> B f -> B g -> (∀ c, c < s -> ∀ i, L * co (f.getD c []) i = β * co (t.getD c []) i + mu u (co (g.getD c [])) i) -> B t
def LrR (K : PySem.W.Frag) (p q : List Int) (s l b : Nat) (B : List (List Int) -> Prop) (Q : VK) (H : Hp) : Prop := ∀ (z : V) (H' : Hp) (hs : List (List Int)), Same H H' -> Rw K H' z hs (2 * l) ((b + 6) * (2 * l) + 1) -> hs.length = s -> Gc p q (pln (hs.getD 0 [])) -> B hs -> Q z H'
def Ajk (K : PySem.W.Frag) (cnd : Nat -> Nat -> Prop) : Sp := fun vs H Q _ => ∃ (x y : V) (fs gs : List (List Int)) (l b : Nat) (B : List (List Int) -> Prop), vs = [x, y] /\ Rw K H x fs l b /\ Rw K H y gs l b /\ gs.length = fs.length /\ 1 <= fs.length /\ fs.length <= 3 /\ l <= 30 /\ 1 <= l /\ 1 <= b /\ (4 * l + l * l) * (b + 6) + 4 * l + 10 <= 15000 /\ B fs /\ B gs /\ Keeps fs.length B /\ cnd (fs.getD 0 []).length (gs.getD 0 []).length /\ LrR K (fs.getD 0 []) (gs.getD 0 []) fs.length l b B Q H
def Vi (K : PySem.W.Frag) : Sp := Ajk K fun x y => y <= x
def Q9 (K : PySem.W.Frag) : Sp := Ajk K fun _ _ => True
theorem RwV.weak {H : Hp} {vs : List V} {fs : List (List Int)} {l n l2 n2 : Nat} (h : RwV K H vs fs l n) (h1 : l <= l2) (h2 : n <= n2) : RwV K H vs fs l2 n2 := ⟨h.1, fun c hc => ⟨(h.2 c hc).1, (h.2 c hc).2.1, Nat.le_trans (h.2 c hc).2.2.1 h1, fun i => ((h.2 c hc).2.2.2 i).mono h2⟩⟩
theorem Rw.weak {H : Hp} {x : V} {fs : List (List Int)} {l n l2 n2 : Nat} (h : Rw K H x fs l n) (h1 : l <= l2) (h2 : n <= n2) : Rw K H x fs l2 n2 := by
  obtain ⟨a, vs, e, t, r⟩ := h
  exact ⟨a, vs, e, t, r.weak h1 h2⟩
theorem Rw.abs {H : Hp} {x : V} {fs : List (List Int)} {l n : Nat} (h : Rw K H x fs l n) (c i : Nat) : (Mq fs c i).natAbs <= 2 ^ n := by
  obtain ⟨a, vs, e, t, r⟩ := h
  unfold Mq
  by_cases hc : c < fs.length
  . exact Nat.le_of_lt ((r.2 c hc).2.2.2 i)
  . rw [List.getD_eq_getElem?_getD, List.getElem?_eq_none (by omega)]
    show (co [] i).natAbs <= _
    rw [Ay]
    simp
theorem Rw.top {H : Hp} {x : V} {fs : List (List Int)} {l n : Nat} (h : Rw K H x fs l n) (c i : Nat) (hi : l <= i) : Mq fs c i = 0 := by
  obtain ⟨a, vs, e, t, r⟩ := h
  unfold Mq
  by_cases hc : c < fs.length
  . exact Bk (Nat.le_trans (r.2 c hc).2.2.1 hi)
  . rw [List.getD_eq_getElem?_getD, List.getElem?_eq_none (by omega)]
    exact Ay i
theorem Rw.first {H : Hp} {x : V} {fs : List (List Int)} {l n : Nat} (h : Rw K H x fs l n) (h1 : 1 <= fs.length) : ∃ a vs, x = .ref a /\ SqT K H a vs /\ atI vs 0 = some (vs.getD 0 .non) /\ Po K H (vs.getD 0 .non) (fs.getD 0 []) l n := by
  obtain ⟨a, vs, e, t, r⟩ := h
  exact ⟨a, vs, e, t, getD_at (j := 0) (by have := r.1; omega), r.2 0 (by omega)⟩
theorem Ui (fs : List (List Int)) {n : Nat} (h : (fs.getD 0 []).length <= n) : Dg (Mq fs) n := fun i hi => Bk (by omega)
theorem Afp (u : List Int) (i : Nat) : mu u (co []) i = 0 := by
  have : mu u (fun _ => 0) i = 0 := congrFun (Qi u) i
  rw [<- this]
  exact En (fun k => Ay k) u i
theorem Tg {fs : List (List Int)} {c : Nat} (h : fs.length <= c) : fs.getD c [] = [] := by
  rw [List.getD_eq_getElem?_getD, List.getElem?_eq_none h]
  rfl
theorem Ahp {f g t : List (List Int)} {u : List Int} {L β : Int} {s : Nat} (hf : f.length = s) (hg : g.length = s) (ht : t.length = s) (h : ∀ c, c < s -> ∀ i, L * co (f.getD c []) i = β * co (t.getD c []) i + mu u (co (g.getD c [])) i) (c i : Nat) : L * Mq f c i = β * Mq t c i + mu u (Mq g c) i := by
  by_cases hc : c < s
  . exact h c hc i
  . unfold Mq
    rw [Tg (fs := f) (by omega), Tg (fs := t) (by omega), Tg (fs := g) (by omega), Ay, Afp]
    simp
theorem Vb {F1 F2 : Nat -> Nat -> Int} {n1 n2 : Nat} {f g : List (List Int)} {l h : Int} {s : Nat} (hf : f.length = s) (hg : g.length = s) (ch : Chn F1 n1 F2 n2 (Mq f) ((f.getD 0 []).length - 1) (Mq g) ((g.getD 0 []).length - 1) l h) (tg : Tr (g.getD 0 [])) (g2 : 2 <= (g.getD 0 []).length) (hle : (g.getD 0 []).length <= (f.getD 0 []).length) {u r : List Int}
    (he : ∀ k, co (g.getD 0 []) ((g.getD 0 []).length - 1) ^ ((f.getD 0 []).length - (g.getD 0 []).length + 1) * co (f.getD 0 []) k = mu u (co (g.getD 0 [])) k + co r k) (hr : r.length < (g.getD 0 []).length) (hu : u.length <= (f.getD 0 []).length - (g.getD 0 []).length + 1) :
    ∃ e, Sg e /\ ∀ c i, co (g.getD 0 []) ((g.getD 0 []).length - 1) ^ ((f.getD 0 []).length - (g.getD 0 []).length + 1) * Mq f c i - mu u (Mq g c) i = l * h ^ ((f.getD 0 []).length - (g.getD 0 []).length) * (e * Sr ((g.getD 0 []).length - 1 - 1) F1 n1 F2 n2 (c, i)) := by
  have ng : g.getD 0 [] ≠ [] := fun z => by rw [z] at g2; exact absurd g2 (by decide)
  have e0 : (f.getD 0 []).length - 1 - ((g.getD 0 []).length - 1) = (f.getD 0 []).length - (g.getD 0 []).length := by omega
  have z := ch.rest (R := fun c i => co (g.getD 0 []) ((g.getD 0 []).length - 1) ^ ((f.getD 0 []).length - (g.getD 0 []).length + 1) * Mq f c i - mu u (Mq g c) i) (q := u) (Ui g (by omega)) (fun i hi => by
      show _ * co (f.getD 0 []) i - mu u (co (g.getD 0 [])) i = 0
      rw [he, Bk (p := r) (by omega)]
      omega) (by omega) (by omega) (by omega) (tg.lead ng) (fun c i => by
      rw [e0]
      show co (g.getD 0 []) ((g.getD 0 []).length - 1) ^ _ * _ = _
      omega)
  rw [e0] at z
  exact z
theorem Vh {f : Addr} {fd : FuncData} (F : Df K mg "last_row" Kh ["first", "second"] f fd)   (c_degree : Cal P w K mg base 1 "degree" ["one"] (Dq K)) (c_next_row : Cal P w K mg base 6 "next_row" ["first", "second", "known"] (Mu K)) (c_whole_power : Cal P w K mg base 4 "whole_power" ["number", "many"] (Di K)) : Rx P w K mg base CX0 7 f fd ["first", "second"] (Vi K) := by
  refine F.fn.ok Bj (fun vs H Q E h => ?_) (fun cdv A outer s H vs Q E hr h => ?_)
  . obtain ⟨x, y, fs, gs, _, _, _, rfl, _⟩ := h
    rfl
  obtain ⟨x, y, fs, gs, l, b, B, rfl, hx, hy, hgl, hf1, hf3, hl30, hl1, hb1, hcond, bf, bg, Kp, hcn, k⟩ := h
  obtain ⟨ax, vx, ex, tx, atx, hx0⟩ := hx.first (by omega)
  obtain ⟨ay, vy, ey, ty, aty, hy0⟩ := hy.first (by omega)
  refine S.Bd ⟨_, (S.Ac (S.Cy (S.Aj Tt (S.Ai c_degree (hr.mono (by decide)) (S.Aa (S.Bo Az (S.pv 0) S.Ad (fun _ _ => rfl)) S.Ab)) (S.Ai c_degree (hr.mono (by decide)) (S.Aa (S.Bo Az (S.pv 1) S.Ad (fun _ _ => rfl)) S.Ab)) (Aq _)) (S.Ae S.M5) S.Bb)
      (S.Ac (S.Ah (i := 2) Bj.nd rfl (Or.inl rfl) S.Ad)
      (S.Ac (S.Ah (i := 3) Bj.nd rfl (Or.inl rfl) S.Ad)
      (S.Ac (S.Hg PassesOwn.never (S.Aj Vk (S.Ai c_degree (hr.mono (by decide)) (S.Aa (S.Bo Az (S.pv 1) S.Ad (fun _ _ => rfl)) S.Ab)) S.Ad (Aq _)) (S.Ac (S.Ah (i := 4) Bj.nd rfl (Or.inl rfl) (S.Ak Ej (S.Ai c_degree (hr.mono (by decide)) (S.Aa (S.Bo Az (S.pv 0) S.Ad (fun _ _ => rfl)) S.Ab)) (S.Ai c_degree (hr.mono (by decide)) (S.Aa (S.Bo Az (S.pv 1) S.Ad (fun _ _ => rfl)) S.Ab))))
      (S.Ac (S.Ah (i := 5) Bj.nd rfl (Or.inl rfl) (S.Ak Cr (S.pv 2) (S.Ai c_whole_power (hr.mono (by decide)) (S.Aa (S.pv 3) (S.Aa (S.pv 4) S.Ab)))))
      (S.Ac (S.Ah (i := 6) Bj.nd rfl (Or.inl rfl) (S.Ai c_next_row (hr.mono (by decide)) (S.Aa (S.pv 0) (S.Aa (S.pv 1) (S.Aa (S.pv 5) S.Ab)))))
      (S.Ac (S.Ah (i := 2) Bj.nd rfl (Or.inl rfl) (S.Bo Az (S.Bo Az (S.pv 1) S.Ad (fun _ _ => rfl)) (S.Dr Ci S.Ad) (fun _ _ => rfl)))
      (S.Ac (S.Cy (S.Aj Vk (S.pv 4) S.Ad (Aq _)) (S.Ae (S.Ah (i := 3) Bj.nd rfl (Or.inl rfl) (S.Ak Jj (S.Ai c_whole_power (hr.mono (by decide)) (S.Aa (S.pv 2) (S.Aa (S.pv 4) S.Ab))) (S.Ai c_whole_power (hr.mono (by decide)) (S.Aa (S.pv 3) (S.Aa (S.Ak Ej (S.pv 4) S.Ad) S.Ab)))))) S.Bb)
      (S.Ae (S.Nf (i := 0) (j := 1) rfl Bj.nd rfl rfl (by decide) rfl rfl (S.Aa (S.pv 1) (S.Aa (S.pv 6) S.Ab)) rfl))))))))
      (S.Ae (S.Al (S.Nm (S.Aj (Im hr.units) (S.Bo Az (S.pv 1) S.Ad (fun _ _ => rfl)) (S.Ar S.Ab) (Aq _)) (S.pv 0) (S.pv 1)))))))), ?_⟩
  refine Bc (fun σ' H' => Same H H' /\ σ' = [some x, some y, none, none, none, none, none]) (fun N hN => ?_) ?_
  . contradiction
    rw [ex, ey] at hN ⊢
    refine Ce tx atx (Cd hx0 (Same.refl _) ?_)
    try contradiction
    refine Ce ty aty (Cd hy0 (Same.refl _) ?_)
    try contradiction
    rw [if_neg (by have : (gs.getD 0 []).length <= (fs.getD 0 []).length := hcn; omega)]
    exact hN _ _ ⟨Same.refl _, rfl⟩
  rintro σ H1 ⟨s1, rfl⟩
  clear ex ey tx ty
  obtain ⟨N, hN⟩ : ∃ N, N = (b + 6) * (2 * l) + 1 := ⟨_, rfl⟩
  have hNb : N <= 8000 := by
    have : (4 * l) * (b + 6) <= (4 * l + l * l) * (b + 6) := Nat.mul_le_mul_right _ (Nat.le_add_right _ _)
    have e : (4 * l) * (b + 6) = 2 * ((b + 6) * (2 * l)) := by grind
    omega
  have kb : ∀ x st : Nat, x <= (fs.getD 0 []).length - 1 -> st <= x -> N + st * ((b + 6) * ((fs.getD 0 []).length - 1 + ((gs.getD 0 []).length - 1) - 2 * x) + 1) + 3 <= 8000 := fun x st hx hst => by
    have lf := (hx0.2.2.1)
    have lg := (hy0.2.2.1)
    have z := Yn (l := l) (b := b) (n1 := (fs.getD 0 []).length - 1) (n2 := (gs.getD 0 []).length - 1) (x := x) (s := st) (by omega) (by omega) hx hst
    have e : (4 * l + l * l) * (b + 6) = 2 * ((b + 6) * (2 * l)) + l * l * (b + 6) := by grind
    omega
  have LB : b <= N := by
    have : (b + 6) * 1 <= (b + 6) * (2 * l) := Nat.mul_le_mul_left _ (by omega)
    omega
  refine Bc (fun σ' H' => H1 = H' /\ σ' = [some x, some y, some (.int 1), none, none, none, none]) (fun N hN => ?_) ?_
  . contradiction
    exact hN _ _ ⟨rfl, rfl⟩
  rintro σ H2 ⟨rfl, rfl⟩
  refine Bc (fun σ' H' => H1 = H' /\ σ' = [some x, some y, some (.int 1), some (.int 1), none, none, none]) (fun N hN => ?_) ?_
  . contradiction
    exact hN _ _ ⟨rfl, rfl⟩
  rintro σ H2 ⟨rfl, rfl⟩
  refine Bc (fun σ' H' => Same H1 H' /\ ∃ (v w : V) (f g : List (List Int)) (o2 o3 o4 o5 o6 : Option V), σ' = [some v, some w, o2, o3, o4, o5, o6] /\ Rw K H' v f (2 * l) N /\ Rw K H' w g (2 * l) N /\ f.length = fs.length /\ g.length = fs.length /\ (g.getD 0 []).length < 2 /\ N7 (f.getD 0 []) (g.getD 0 []) (fs.getD 0 []) (gs.getD 0 []) /\ B f /\ B g) (fun M hM => ?_) ?_
  . contradiction
    refine Ab1 (fun m σ' H' => Same H1 H' /\ ∃ (v w : V) (f g : List (List Int)) (ld ht : Int) (o4 o5 o6 : Option V), σ' = [some v, some w, some (.int ld), some (.int ht), o4, o5, o6] /\ m = (g.getD 0 []).length /\ Rw K H' v f (2 * l) N /\ Rw K H' w g (2 * l) N /\ f.length = fs.length /\ g.length = fs.length /\ (g.getD 0 []).length <= (f.getD 0 []).length /\ (f.getD 0 []).length <= (fs.getD 0 []).length /\ (g.getD 0 []).length <= (gs.getD 0 []).length /\ ld ≠ 0 /\ Sz N ld /\ ht ≠ 0 /\ Sz ((b + 6) * ((fs.getD 0 []).length - 1 + ((gs.getD 0 []).length - 1) - 2 * ((f.getD 0 []).length - 1)) + 1) ht /\
        (g.getD 0 [] ≠ [] -> Chn (Mq fs) ((fs.getD 0 []).length - 1) (Mq gs) ((gs.getD 0 []).length - 1) (Mq f) ((f.getD 0 []).length - 1) (Mq g) ((g.getD 0 []).length - 1) ld ht) /\ N7 (f.getD 0 []) (g.getD 0 []) (fs.getD 0 []) (gs.getD 0 []) /\ B f /\ B g) _
      ⟨Same.refl _, x, y, fs, gs, 1, 1, _, _, _, rfl, rfl, (hx.mono s1).weak (by omega) LB, (hy.mono s1).weak (by omega) LB, rfl, hgl, hcn, Nat.le_refl _, Nat.le_refl _, by decide, (show Sz 1 (1 : Int) by unfold Sz; decide).mono (by omega), by decide, (show Sz 1 (1 : Int) by unfold Sz; decide).mono (by omega), fun _ => Chn.start _ _ _ _, N7.refl _ _, bf, bg⟩ ?_
    rintro m σ' H3 ⟨s3, v, w, f, g, ld, ht, o4, o5, o6, rfl, rfl, iv, iw, lf, lg, hle, hfl, hgle, ld0, zld, ht0, zht, ch, sm, Bf, Bg⟩
    obtain ⟨av, vv, rfl, tv, atv, pv0⟩ := iv.first (by omega)
    obtain ⟨aw, vw, rfl, tw, atw, pw0⟩ := iw.first (by omega)
    contradiction
    refine Ce tw atw (Cd pw0 (Same.refl _) ?_)
    try contradiction
    by_cases hg2 : (0 : Int) < ((g.getD 0 []).length : Int) - 1
    case neg =>
      rw [if_neg hg2]
      exact hM _ _ ⟨s3, _, _, f, g, _, _, _, _, _, rfl, iv, iw, lf, lg, by omega, sm, Bf, Bg⟩
    rw [if_pos hg2]
    have g2 : 2 <= (g.getD 0 []).length := by omega
    have gn : g.getD 0 [] ≠ [] := fun z => by rw [z] at g2; exact absurd g2 (by decide)
    replace ch := ch gn
    obtain ⟨δ, hδ⟩ : ∃ δ, δ = (f.getD 0 []).length - (g.getD 0 []).length := ⟨_, rfl⟩
    obtain ⟨lg0, hlg0⟩ : ∃ x, x = co (g.getD 0 []) ((g.getD 0 []).length - 1) := ⟨_, rfl⟩
    have lgn : lg0 ≠ 0 := by rw [hlg0]; exact pw0.2.1.lead gn
    have lfl := hx0.2.2.1
    have bits := kb ((f.getD 0 []).length - 1) δ (by omega) (by omega)
    have pz := Xp zht δ
    have bz : Sz 8000 (ld * ht ^ δ) := (zld.mul pz).mono (by
      rw [Nat.mul_comm _ δ]
      omega)
    have bne : ld * ht ^ δ ≠ 0 := Int.mul_ne_zero ld0 (Mx ht0 _)
    have hbz : (b + 6) * ((fs.getD 0 []).length - 1 + ((gs.getD 0 []).length - 1) - 2 * ((f.getD 0 []).length - 1)) <= (b + 6) * (2 * l) := Nat.mul_le_mul_left _ (by have := hy0.2.2.1; omega)
    refine Aif ?_
    refine Bc (fun σ' H' => H' = H3 /\ σ' = [some (.ref av), some (.ref aw), some (.int ld), some (.int ht), some (.int (δ : Nat)), o5, o6]) (fun N hN => ?_) ?_
    . contradiction
      refine Ce tv atv (Cd pv0 (Same.refl _) ?_)
      try contradiction
      refine Ce tw atw (Cd pw0 (Same.refl _) ?_)
      try contradiction
      have e : ((f.getD 0 []).length : Int) - 1 - (((g.getD 0 []).length : Int) - 1) = (δ : Nat) := by omega
      rw [e]
      exact hN _ _ ⟨rfl, rfl⟩
    rintro σ' H4 ⟨rfl, rfl⟩
    refine Bc (fun σ' H' => Same H4 H' /\ σ' = [some (.ref av), some (.ref aw), some (.int ld), some (.int ht), some (.int (δ : Nat)), some (.int (ld * ht ^ δ)), o6]) (fun M' hM' => ?_) ?_
    . contradiction
      refine Vo rfl ht0 zht (by omega) (by omega) fun H' s' => ?_
      try contradiction
      exact ⟨zld.mulOk pz (by rw [Nat.mul_comm _ δ]; omega), hM' _ _ ⟨s', rfl⟩⟩
    rintro σ' H5 ⟨s5, rfl⟩
    refine Bc (fun σ' H' => Same H4 H' /\ ∃ (t : V) (ts : List (List Int)) (u r : List Int) (e : Int), σ' = [some (.ref av), some (.ref aw), some (.int ld), some (.int ht), some (.int (δ : Nat)), some (.int (ld * ht ^ δ)), some t] /\ Rw K H' t ts (2 * l) N /\ ts.length = fs.length /\ (ts.getD 0 []).length < (g.getD 0 []).length /\ u.length <= δ + 1 /\ (∀ c, c < fs.length -> ∀ i, lg0 ^ (δ + 1) * co (f.getD c []) i = ld * ht ^ δ * co (ts.getD c []) i + mu u (co (g.getD c [])) i)) (fun M' hM' => ?_) ?_
    . contradiction
      refine ⟨_, _, _, f, g, 2 * l, N, rfl, iv.mono s5, iw.mono s5, by omega, by omega, by omega, by omega, hNb, gn, hle, by omega, bne, bz, fun u r he hr hu c hc i => ?_, fun z H6 ts u r s6 iz lz he hr hu hco => ?_⟩
      . obtain ⟨e, _, hex⟩ := Vb lf lg ch pw0.2.1 g2 hle he hr hu
        have := hex c i
        unfold Mq at this
        rw [this, <- hδ]
        exact ⟨_, rfl⟩
      . obtain ⟨e, hse, hex⟩ := Vb lf lg ch pw0.2.1 g2 hle he hr hu
        rw [<- hδ, <- hlg0] at hex hco
        have Tv : ∀ c, c < fs.length -> ∀ i, co (ts.getD c []) i = e * Sr ((g.getD 0 []).length - 1 - 1) (Mq fs) ((fs.getD 0 []).length - 1) (Mq gs) ((gs.getD 0 []).length - 1) (c, i) := fun c hc i => by
          have h1 : lg0 ^ (δ + 1) * co (f.getD c []) i - mu u (co (g.getD c [])) i = _ := hex c i
          have h2 := hco c (by omega) i
          refine Int.eq_of_mul_eq_mul_left bne (Eq.trans ?_ h1)
          omega
        have ab : ∀ c i, (Sr ((g.getD 0 []).length - 1 - 1) (Mq fs) ((fs.getD 0 []).length - 1) (Mq gs) ((gs.getD 0 []).length - 1) (c, i)).natAbs <= 2 ^ ((b + 6) * (2 * l)) := fun c i => by
          have hlg' := hy0.2.2.1
          refine Nat.le_trans (Aec hx.abs hy.abs (by omega) (by omega) (by omega) (c, i)) (Nat.pow_le_pow_right (by decide) (Nat.mul_le_mul_left _ (by omega)))
        obtain ⟨az, vz, rfl, tz, lvz, pz'⟩ := iz
        refine hM' _ _ ⟨s5.trans s6, _, ts, u, r, e, rfl, ⟨az, vz, rfl, tz, lvz, fun c hc => ?_⟩, by omega, ?_, by omega, fun c hc i => hco c (by omega) i⟩
        . have hp := pz' c hc
          refine ⟨hp.1, hp.2.1, ?_, fun i => ?_⟩
          . have h := hp.2.1.len (q := (ts.getD c []).take (2 * l)) fun i => by
              rw [Ie]
              split
              . rfl
              . rw [Tv c (by omega), Ae3 (l := l) hx.top hy.top (by have := hx0.2.2.1; omega) (by have := hy0.2.2.1; omega) c i (by omega), Int.mul_zero]
            rw [List.length_take] at h
            omega
          . rw [Tv c (by omega)]
            unfold Sz
            rw [Int.natAbs_mul]
            have : e.natAbs = 1 := by rcases hse with rfl | rfl <;> rfl
            rw [this, Nat.one_mul, hN]
            exact Nat.lt_of_le_of_lt (ab c i) (Nat.pow_lt_pow_right (by decide) (by omega))
        . have hp := (pz' 0 (by omega)).2.1
          have h := hp.len (q := (ts.getD 0 []).take r.length) fun i => by
            rw [Ie]
            split
            . rfl
            . have h1 := hco 0 (by omega) i
              have h2 := he i
              rw [<- hδ, <- hlg0, Bk (p := r) (by omega)] at h2
              have : ld * ht ^ δ * co (ts.getD 0 []) i = 0 := by omega
              rcases Int.mul_eq_zero.mp this with z | z
              . exact absurd z bne
              . exact z
          rw [List.length_take] at h
          omega
    rintro σ' H6 ⟨s6, t, ts, u, r, e, rfl, it, lt, hlt, hu, hco⟩
    refine Bc (fun σ' H' => H' = H6 /\ σ' = [some (.ref av), some (.ref aw), some (.int lg0), some (.int ht), some (.int (δ : Nat)), some (.int (ld * ht ^ δ)), some t]) (fun M' hM' => ?_) ?_
    . contradiction
      obtain ⟨⟨b0, eb0, hb0⟩, _⟩ := id pw0
      refine Ce (s6.tup tw) atw ?_
      rw [eb0]
      refine Ce (s6.tup hb0) (Hi gn) ?_
      try contradiction
      rw [<- hlg0]
      exact hM' _ _ ⟨rfl, rfl⟩
    rintro σ' H7 ⟨rfl, rfl⟩
    have zlg : Sz N lg0 := by rw [hlg0]; exact pw0.2.2.2 _
    refine Bc (fun σ' H' => Same H7 H' /\ ∃ h' : Int, σ' = [some (.ref av), some (.ref aw), some (.int lg0), some (.int h'), some (.int (δ : Nat)), some (.int (ld * ht ^ δ)), some t] /\ h' ≠ 0 /\ Sz ((b + 6) * ((fs.getD 0 []).length - 1 + ((gs.getD 0 []).length - 1) - 2 * ((g.getD 0 []).length - 1)) + 1) h' /\ (((f.getD 0 []).length - 1 = (g.getD 0 []).length - 1 /\ h' = ht) \/ ((g.getD 0 []).length - 1 < (f.getD 0 []).length - 1 /\ ht ^ ((f.getD 0 []).length - 1 - ((g.getD 0 []).length - 1) - 1) * h' = lg0 ^ ((f.getD 0 []).length - 1 - ((g.getD 0 []).length - 1))))) (fun M' hM' => ?_) ?_
    . contradiction
      by_cases hd0 : (0 : Int) < (δ : Nat)
      . rw [if_pos hd0]
        obtain ⟨e2, he2, hh⟩ := ch.height (Ui g (by omega)) (by omega)
        have hlt' := hy0.2.2.1
        have hz' : Sz ((b + 6) * ((fs.getD 0 []).length - 1 + ((gs.getD 0 []).length - 1) - 2 * ((g.getD 0 []).length - 1)) + 1) (e2 * Sr ((g.getD 0 []).length - 1) (Mq fs) ((fs.getD 0 []).length - 1) (Mq gs) ((gs.getD 0 []).length - 1) (0, (g.getD 0 []).length - 1)) := by
          unfold Sz
          rw [Int.natAbs_mul]
          have : e2.natAbs = 1 := by rcases he2 with rfl | rfl <;> rfl
          rw [this, Nat.one_mul]
          exact Nat.lt_of_le_of_lt (Aec hx.abs hy.abs (by omega) (by omega) (by omega) _) (Nat.pow_lt_pow_right (by decide) (by omega))
        generalize e2 * Sr ((g.getD 0 []).length - 1) (Mq fs) ((fs.getD 0 []).length - 1) (Mq gs) ((gs.getD 0 []).length - 1) (0, (g.getD 0 []).length - 1) = h' at *
        have hh' : ht ^ ((f.getD 0 []).length - 1 - ((g.getD 0 []).length - 1) - 1) * h' = lg0 ^ ((f.getD 0 []).length - 1 - ((g.getD 0 []).length - 1)) := by rw [hlg0]; exact hh
        have ed : (f.getD 0 []).length - 1 - ((g.getD 0 []).length - 1) = δ := by omega
        have h'n : h' ≠ 0 := fun z => by
          rw [z, Int.mul_zero] at hh'
          exact Mx lgn _ hh'.symm
        have pz1 := Xp zht (δ - 1)
        have hpn := Mx ht0 (δ - 1)
        have pb : (δ - 1) * ((b + 6) * ((fs.getD 0 []).length - 1 + ((gs.getD 0 []).length - 1) - 2 * ((f.getD 0 []).length - 1)) + 1) <= δ * ((b + 6) * ((fs.getD 0 []).length - 1 + ((gs.getD 0 []).length - 1) - 2 * ((f.getD 0 []).length - 1)) + 1) := Nat.mul_le_mul_right _ (by omega)
        refine Vo rfl lgn zlg (by omega) (by omega) fun Ha sa => ?_
        try contradiction
        refine Vo (m := δ - 1) (by omega) ht0 zht (by omega) (by omega) fun Hb sb => ?_
        try contradiction
        refine ⟨⟨hpn, pz1.log2 hpn (by rw [Nat.mul_comm _ (δ - 1)]; omega)⟩, ?_⟩
        have ef : (lg0 ^ δ).fdiv (ht ^ (δ - 1)) = h' := by
          rw [ed] at hh'
          rw [<- hh', Int.mul_fdiv_cancel_left _ hpn]
        rw [ef]
        exact hM' _ _ ⟨sa.trans sb, h', rfl, h'n, hz', .inr ⟨by omega, hh'⟩⟩
      . rw [if_neg hd0]
        have el : (f.getD 0 []).length = (g.getD 0 []).length := by omega
        refine hM' _ _ ⟨Same.refl _, ht, rfl, ht0, ?_, .inl ⟨by omega, rfl⟩⟩
        rw [<- el]
        exact zht
    rintro σ' H8 ⟨s8, h', rfl, h'n, zh', hh⟩
    contradiction
    refine ⟨(ts.getD 0 []).length, hlt, s3.trans (s6.trans s8), .ref aw, t, g, ts, lg0, h', _, _, _, rfl, rfl, iw.mono (s6.trans s8), it.mono s8, lg, lt, by omega, by omega, by omega, lgn, zlg, h'n, zh', fun tn => ?_, ?_, Bg, ?_⟩
    . have := ch.next (T := Mq ts) (k := (ts.getD 0 []).length - 1) (q := u) (h' := h') (Ui g (by omega)) (Ui ts (by omega)) (by omega) (by omega) (by have := List.length_pos_iff.mpr tn; omega) (by show co (g.getD 0 []) _ ≠ 0; rw [<- hlg0]; exact lgn) ld0 ht0 (fun c i => ?_) (by
        rcases hh with z | z
        . exact .inl z
        . exact .inr ⟨z.1, by show _ = co (g.getD 0 []) _ ^ _; rw [<- hlg0]; exact z.2⟩)
      . show Chn _ _ _ _ (Mq g) _ (Mq ts) _ lg0 h'
        rw [hlg0]
        exact this
      . have ed : (f.getD 0 []).length - 1 - ((g.getD 0 []).length - 1) = δ := by omega
        rw [ed]
        show co (g.getD 0 []) _ ^ _ * _ = _
        rw [<- hlg0]
        exact Ahp lf lg lt hco c i
    . refine N7.trans (Zc (Mx lgn (δ + 1)) bne (hco 0 (by omega))) sm
    . exact Kp f g ts u _ _ bne lf lg lt Bf Bg hco
  rintro σ H3 ⟨s3, v, w, f, g, o2, o3, o4, o5, o6, rfl, iv, iw, lf, lg, hg2, sm, Bf, Bg⟩
  obtain ⟨av, vv, rfl, tv, atv, pv0⟩ := iv.first (by omega)
  obtain ⟨aw, vw, rfl, tw, atw, pw0⟩ := iw.first (by omega)
  rw [hN] at iv iw
  contradiction
  refine Ce tw atw ?_
  try contradiction
  refine ⟨by decide, fun e0 he0 => ?_⟩
  have se := Same.upd he0 (.tup [])
  obtain ⟨⟨b0, eb0, hb0⟩, tg0, _, _⟩ := id pw0
  rw [eb0]
  refine Cv (ms := []) (se.tup hb0) (.of Af) ?_
  try contradiction
  by_cases hg : g.getD 0 [] = []
  . rw [if_pos hg]
    rw [hg] at sm
    exact k _ _ f ((s1.trans s3).trans se) (iv.mono se) lf (Aie pv0.2.1 sm) Bf
  . rw [if_neg hg]
    have gl1 : (g.getD 0 []).length = 1 := by
      have := List.length_pos_iff.mpr hg
      omega
    obtain ⟨c, hc⟩ : ∃ c, g.getD 0 [] = [c] := by
      match hm : g.getD 0 [], gl1 with
      | [c], _ => exact ⟨c, rfl⟩
    have c0 : c ≠ 0 := by
      have := tg0.lead hg
      rw [hc] at this
      exact this
    rw [hc] at sm
    exact k _ _ g ((s1.trans s3).trans se) (iw.mono se) lg (by rw [hc]; exact Acj c0 sm) Bg
theorem Afi {k : Nat} {f : Addr} {fd : FuncData} {ps : List Str} {s1 s2 s3 : Sp} (a : Rx P w K mg base CX0 k f fd ps s1) (b : Rx P w K mg base CX0 k f fd ps s2) (h : ∀ vs H Q E, s3 vs H Q E -> s1 vs H Q E \/ s2 vs H Q E) : Rx P w K mg base CX0 k f fd ps s3 :=
  ⟨fun vs H Q E q => (h _ _ _ _ q).elim (a.len vs H Q E) (b.len vs H Q E), fun A outer s H args us vs Q E hr he hb hv hs => (h _ _ _ _ hs).elim (a.run A outer s H args us vs Q E hr he hb hv) (b.run A outer s H args us vs Q E hr he hb hv)⟩
theorem W4 {f : Addr} {fd : FuncData} (F : Df K mg "last_row" Kh ["first", "second"] f fd)   (c_degree : Cal P w K mg base 1 "degree" ["one"] (Dq K)) (c_next_row : Cal P w K mg base 6 "next_row" ["first", "second", "known"] (Mu K)) (c_whole_power : Cal P w K mg base 4 "whole_power" ["number", "many"] (Di K)) : Cal P w K mg base 8 "last_row" ["first", "second"] (Q9 K) := by
  have fo := Vh (P := P) (w := w) (base := base) F (c_degree := c_degree) (c_whole_power := c_whole_power) (c_next_row := c_next_row)
  have c_last_row := F.cal fo
  refine F.cal (Afi (s2 := Ajk K fun x y => x < y) (fo.mono (by decide)) (F.fn.ok Bj (fun vs H Q E h => ?_) (fun cdv A outer s H vs Q E hr h => ?_)) fun vs H Q E h => ?_)
  . obtain ⟨x, y, fs, gs, _, _, _, rfl, _⟩ := h
    rfl
  . obtain ⟨x, y, fs, gs, l, b, B, rfl, hx, hy, hgl, hf1, hf3, hl30, hl1, hb1, hcond, bf, bg, Kp, hcn, k⟩ := h
    obtain ⟨ax, vx, ex, tx, atx, hx0⟩ := hx.first (by omega)
    obtain ⟨ay, vy, ey, ty, aty, hy0⟩ := hy.first (by omega)
    refine S.Bd ⟨_, (S.Ac (S.Cy (S.Aj Tt (S.Ai c_degree (hr.mono (by decide)) (S.Aa (S.Bo Az (S.pv 0) S.Ad (fun _ _ => rfl)) S.Ab)) (S.Ai c_degree (hr.mono (by decide)) (S.Aa (S.Bo Az (S.pv 1) S.Ad (fun _ _ => rfl)) S.Ab)) (Aq _)) (S.Ae (S.Al (S.Ai c_last_row (hr.mono (by decide)) (S.Aa (S.pv 1) (S.Aa (S.pv 0) S.Ab))))) S.Bb)
      (S.Ac (S.Ah (i := 2) Bj.nd rfl (Or.inl rfl) S.Ad)
      (S.Ac (S.Ah (i := 3) Bj.nd rfl (Or.inl rfl) S.Ad)
      (S.Ac (S.Hg PassesOwn.never (S.Aj Vk (S.Ai c_degree (hr.mono (by decide)) (S.Aa (S.Bo Az (S.pv 1) S.Ad (fun _ _ => rfl)) S.Ab)) S.Ad (Aq _)) (S.Ac (S.Ah (i := 4) Bj.nd rfl (Or.inl rfl) (S.Ak Ej (S.Ai c_degree (hr.mono (by decide)) (S.Aa (S.Bo Az (S.pv 0) S.Ad (fun _ _ => rfl)) S.Ab)) (S.Ai c_degree (hr.mono (by decide)) (S.Aa (S.Bo Az (S.pv 1) S.Ad (fun _ _ => rfl)) S.Ab))))
      (S.Ac (S.Ah (i := 5) Bj.nd rfl (Or.inl rfl) (S.Ak Cr (S.pv 2) (S.Ai c_whole_power (hr.mono (by decide)) (S.Aa (S.pv 3) (S.Aa (S.pv 4) S.Ab)))))
      (S.Ac (S.Ah (i := 6) Bj.nd rfl (Or.inl rfl) (S.Ai c_next_row (hr.mono (by decide)) (S.Aa (S.pv 0) (S.Aa (S.pv 1) (S.Aa (S.pv 5) S.Ab)))))
      (S.Ac (S.Ah (i := 2) Bj.nd rfl (Or.inl rfl) (S.Bo Az (S.Bo Az (S.pv 1) S.Ad (fun _ _ => rfl)) (S.Dr Ci S.Ad) (fun _ _ => rfl)))
      (S.Ac (S.Cy (S.Aj Vk (S.pv 4) S.Ad (Aq _)) (S.Ae (S.Ah (i := 3) Bj.nd rfl (Or.inl rfl) (S.Ak Jj (S.Ai c_whole_power (hr.mono (by decide)) (S.Aa (S.pv 2) (S.Aa (S.pv 4) S.Ab))) (S.Ai c_whole_power (hr.mono (by decide)) (S.Aa (S.pv 3) (S.Aa (S.Ak Ej (S.pv 4) S.Ad) S.Ab)))))) S.Bb)
      (S.Ae (S.Nf (i := 0) (j := 1) rfl Bj.nd rfl rfl (by decide) rfl rfl (S.Aa (S.pv 1) (S.Aa (S.pv 6) S.Ab)) rfl))))))))
      (S.Ae (S.Al (S.Nm (S.Aj (Im hr.units) (S.Bo Az (S.pv 1) S.Ad (fun _ _ => rfl)) (S.Ar S.Ab) (Aq _)) (S.pv 0) (S.pv 1)))))))), ?_⟩
    contradiction
    rw [ex, ey]
    refine Ce tx atx (Cd hx0 (Same.refl _) ?_)
    try contradiction
    refine Ce ty aty (Cd hy0 (Same.refl _) ?_)
    try contradiction
    rw [if_pos (by omega), <- ex, <- ey]
    exact ⟨y, x, gs, fs, l, b, B, rfl, hy, hx, by omega, by omega, by omega, hl30, hl1, hb1, hcond, bg, bf, by rw [hgl]; exact Kp, by show (fs.getD 0 []).length <= _; omega, fun z H' hs s' iz lz gc Bh => k z H' hs s' iz (by omega) gc.symm Bh⟩
  . obtain ⟨x, y, fs, gs, l, b, B, e, hx, hy, hgl, hf1, hf3, hl30, hl1, hb1, hcond, bf, bg, Kp, _, k⟩ := h
    by_cases hcn : (gs.getD 0 []).length <= (fs.getD 0 []).length
    . exact .inl ⟨x, y, fs, gs, l, b, B, e, hx, hy, hgl, hf1, hf3, hl30, hl1, hb1, hcond, bf, bg, Kp, hcn, k⟩
    . exact .inr ⟨x, y, fs, gs, l, b, B, e, hx, hy, hgl, hf1, hf3, hl30, hl1, hb1, hcond, bf, bg, Kp, by omega, k⟩
theorem Aeu {H : Hp} {a : Addr} {v : V} {p : List Int} {l n : Nat} (h : SqT K H a [v]) (hp : Po K H v p l n) : Rw K H (.ref a) [p] l n := ⟨a, [v], rfl, h, rfl, fun c hc => by
  have : c = 0 := by simpa using hc
  subst this
  exact hp⟩
def Few (l b : Nat) : Prop := l <= 30 /\ 1 <= l /\ 1 <= b /\ (4 * l + l * l) * (b + 6) + 4 * l + 10 <= 15000
theorem Few.bits {l b : Nat} (h : Few l b) : (b + 6) * (2 * l) + 1 <= 8000 := by
  obtain ⟨_, _, _, h⟩ := h
  have : (4 * l) * (b + 6) <= (4 * l + l * l) * (b + 6) := Nat.mul_le_mul_right _ (Nat.le_add_right _ _)
  have e : (4 * l) * (b + 6) = 2 * ((b + 6) * (2 * l)) := by grind
  omega
def Nh (K : PySem.W.Frag) : Sp := fun vs H Q _ => ∃ (x y : V) (p q : List Int) (l b : Nat), vs = [x, y] /\ Po K H x p l b /\ Po K H y q l b /\ Few l b /\ ∀ z H' g, Same H H' -> Po K H' z g (2 * l) ((b + 6) * (2 * l) + 1) -> Gc p q g -> Q z H'
theorem Acd {f : Addr} {fd : FuncData} (F : Df K mg "shared" Ue ["one", "other"] f fd)   (c_surely_apart : Cal P w K mg base 6 "surely_apart" ["one", "other"] (Jq K)) (c_plain : Cal P w K mg base 5 "plain" ["one"] (Tj K)) (c_last_row : Cal P w K mg base 8 "last_row" ["first", "second"] (Q9 K)) : Cal P w K mg base 9 "shared" ["one", "other"] (Nh K) := by
  refine F.cal (F.fn.ok Abr (fun vs H Q E h => ?_) (fun cdv A outer s H vs Q E hr h => ?_))
  . obtain ⟨x, y, p, q, _, _, rfl, _⟩ := h
    rfl
  obtain ⟨x, y, p, q, l, b, rfl, hx, hy, few, k⟩ := h
  have fb := few.bits
  obtain ⟨f1, f2, f3, f4⟩ := few
  refine S.Bd ⟨_, (S.Ac (S.Cy (S.Il (S.Ai c_surely_apart (hr.mono (by decide)) (S.Aa (S.pv 0) (S.Aa (S.pv 1) S.Ab)))) (S.Ae (S.Al (S.Ar (S.Aa S.Ad S.Ab)))) S.Bb)
      (S.Ae (S.Al (S.Ai c_plain (hr.mono (by decide)) (S.Aa (S.Bo Az (S.Ai c_last_row (hr.mono (by decide)) (S.Aa (S.Ar (S.Aa (S.pv 0) S.Ab)) (S.Aa (S.Ar (S.Aa (S.pv 1) S.Ab)) S.Ab))) S.Ad (fun _ _ => rfl)) S.Ab))))), ?_⟩
  contradiction
  refine ⟨x, y, p, q, l, l, b, b, rfl, hx, hy, by omega, by omega, fun bb H1 s1 hb => ?_⟩
  try contradiction
  split
  . rename_i h
    intro z hz
    have sz := Same.upd hz (.tup [V.int 1])
    refine k _ _ [1] (s1.trans sz) ⟨⟨z, rfl, .of Af⟩, .inr ⟨by simp, by decide⟩, by simp; omega, fun i => Wm (by omega) (fun x hx => by
      have : x = 1 := by simpa using hx
      subst this
      exact (show Sz 1 (1 : Int) by unfold Sz; decide).mono (by omega)) i⟩ (hb h)
  . (intro q1 hq1; generalize eq1 : upd _ q1 _ = Gq1; obtain ⟨sq1, gq1⟩ := nw hq1 eq1; clear eq1 hq1)
    (intro q2 hq2; generalize eq2 : upd _ q2 _ = Gq2; obtain ⟨sq2, gq2⟩ := nw hq2 eq2; clear eq2 hq2)
    have s2 := (s1.trans sq1).trans sq2
    refine ⟨_, _, [p], [q], l, b, fun _ => True, rfl, Aeu (.of (sq2 _ _ gq1)) (hx.mono s2), Aeu (.of gq2) (hy.mono s2), rfl, Nat.le_refl 1, show 1 <= 3 by decide, f1, f2, f3, f4, trivial, trivial, fun _ _ _ _ _ _ _ _ _ _ _ _ _ => trivial, trivial, fun z H' hs s' iz lz gc _ => ?_⟩
    obtain ⟨az, vz, rfl, tz, atz, pz⟩ := iz.first (by rw [lz]; exact Nat.le_refl 1)
    refine Ce tz atz ?_
    try contradiction
    exact Afq pz (Same.refl _) (by omega) fb fun w H2 s3 iw => k w H2 _ ((s2.trans s').trans s3) iw gc
theorem Xq {H H1 H2 : Hp} {Q : VK} {E : XK} {x y : V} {p q : List Int} {l b : Nat} (hx : Po K H1 x p l b) (s1 : Same H1 H) (hy : Po K H2 y q l b) (s2 : Same H2 H) (f : Few l b) (h : ∀ z H' g, Same H H' -> Po K H' z g (2 * l) ((b + 6) * (2 * l) + 1) -> Gc p q g -> Q z H') : Nh K [x, y] H Q E := ⟨x, y, p, q, l, b, rfl, hx.mono s1, hy.mono s2, f, h⟩
inductive Wh (K : PySem.W.Frag) (H : Hp) : V -> Bool -> Prop where
  | int (i : Int) : Wh K H (.int i) true
  | bl (b : Bool) : Wh K H (.bl b) false
  | non : Wh K H .non false
  | str (x : Str) : Wh K H (.str x) false
  | tup {a : Addr} {xs : List V} (e : H a = some (.tup xs)) : Wh K H (.ref a) false
  | lst {a : Addr} {xs : List V} (e : H a = some (.lst xs)) : Wh K H (.ref a) false
def Ak5 (K : PySem.W.Frag) : Sp := fun vs H Q _ => ∃ v b, vs = [v] /\ Wh K H v b /\ Q (.bl b) H
theorem isi {H : Hp} {GB : Bool -> Prop} {v : V} {t : Value} {T : String} {b : Bool} (ht : Vv K H v t) (hk : PySem.W.kitOne K t (.type T) = some b) (q : GB b) :
    ∃ x t' T' b', [v, V.ty T] = [x, V.ty T'] /\ Vv K H x t' /\ PySem.W.kitOne K t' (.type T') = some b' /\ GB b' := ⟨v, t, T, b, rfl, ht, hk, q⟩
theorem Yp {T U : String} {b : Bool} (h : (if (Value.type T == Value.type U) = true then some true else if PySem.W.kitMeta U = true then PySem.W.subIn [] (.type T) (.type U) else none) = some b) : PySem.W.kitOne K (.type T) (.type U) = some b := h
theorem Aia : PySem.W.kitOne K (.type "int") (.type "int") = some true := Yp (by decide +kernel)
theorem Aid : PySem.W.kitOne K (.type "int") (.type "bool") = some false := Yp (by decide +kernel)
theorem Ahw : PySem.W.kitOne K (.type "bool") (.type "int") = some true := Yp (by decide +kernel)
theorem Ah7 : PySem.W.kitOne K (.type "bool") (.type "bool") = some true := Yp (by decide +kernel)
theorem Ahb : PySem.W.kitOne K (.type "NoneType") (.type "int") = some false := Yp (by decide +kernel)
theorem Ahk : PySem.W.kitOne K (.type "str") (.type "int") = some false := Yp (by decide +kernel)
theorem Aht : PySem.W.kitOne K (.type "tuple") (.type "int") = some false := Yp (by decide +kernel)
theorem Ahy : PySem.W.kitOne K (.type "list") (.type "int") = some false := Yp (by decide +kernel)
def Ro (K : PySem.W.Frag) : Sp := Ak5 K
theorem Ww {f : Addr} {fd : FuncData} (F : Df K mg "is_whole" Nv ["thing"] f fd) (z_isinstance : mg "isinstance" = none) (z_int : mg "int" = none) (z_bool : mg "bool" = none)   : Cal P w K mg base 1 "is_whole" ["thing"] (Ro K) := by
  refine F.cal (F.fn.ok Wd (fun vs H Q E h => ?_) (fun cdv A outer s H vs Q E hr h => ?_))
  . obtain ⟨v, b, rfl, _⟩ := h
    rfl
  obtain ⟨v, b, rfl, hv, q⟩ := h
  refine S.Bd ⟨_, (S.Ae (S.Al (S.Qo (S.Dd Ua rfl z_isinstance PyProof.Rows.boot_isinstance (S.Aa (S.pv 0) (S.Aa (S.Iv (v := .ty "int") rfl z_int PyProof.Rows.boot_int rfl) S.Ab))) (S.Ss (S.Vj (S.Dd Ua rfl z_isinstance PyProof.Rows.boot_isinstance (S.Aa (S.pv 0) (S.Aa (S.Iv (v := .ty "bool") rfl z_bool PyProof.Rows.boot_bool rfl) S.Ab)))))))), ?_⟩
  contradiction
  cases hv with
  | int i =>
    refine isi (.int i) Aia ?_
    contradiction
    refine isi (.int i) Aid ?_
    contradiction
    exact q
  | bl b =>
    refine isi (.bl b) Ahw ?_
    contradiction
    refine isi (.bl b) Ah7 ?_
    contradiction
    exact q
  | non =>
    refine isi .non Ahb ?_
    contradiction
    exact q
  | str x =>
    refine isi (.str x) Ahk ?_
    contradiction
    exact q
  | tup e =>
    refine isi (.tup e) Aht ?_
    contradiction
    exact q
  | lst e =>
    refine isi (.lst e) Ahy ?_
    contradiction
    exact q
inductive Th (K : PySem.W.Frag) (H : Hp) : V -> Bool -> Prop where
  | nums {a : Addr} {ns : List Int} (h : SqT K H a (ns.map V.int)) (hl : ns.length <= 1000) : Th K H (.ref a) (decide (trim ns = ns))
  | bad {a : Addr} {es : List (V × Bool)} (h : SqT K H a (es.map (·.1))) (hl : es.length <= 1000) (hw : ∀ e ∈ es, Wh K H e.1 e.2) (hb : (es.map (·.2)).all id = false) : Th K H (.ref a) false
  | int (i : Int) : Th K H (.int i) false
  | non : Th K H .non false
  | str (x : Str) : Th K H (.str x) false
  | lst {a : Addr} {xs : List V} (e : H a = some (.lst xs)) : Th K H (.ref a) false
def Akr (K : PySem.W.Frag) : Sp := fun vs H Q _ => ∃ v b, vs = [v] /\ Th K H v b /\ ∀ H', Same H H' -> Q (.bl b) H'
theorem Wh.mono {H H' : Hp} {v : V} {b : Bool} (h : Wh K H v b) (s : Same H H') : Wh K H' v b := by
  cases h with
  | int i => exact .int i
  | bl b => exact .bl b
  | non => exact .non
  | str x => exact .str x
  | tup e => exact .tup (s _ _ e)
  | lst e => exact .lst (s _ _ e)
theorem Th.mono {H H' : Hp} {v : V} {b : Bool} (h : Th K H v b) (s : Same H H') : Th K H' v b := by
  cases h with
  | nums h hl => exact .nums (s.tup h) hl
  | bad h hl hw hb => exact .bad (s.tup h) hl (fun e he => (hw e he).mono s) hb
  | int i => exact .int i
  | non => exact .non
  | str x => exact .str x
  | lst e => exact .lst (s _ _ e)
theorem Ah1 : PySem.W.kitOne K (.type "int") (.type "tuple") = some false := Yp (by decide +kernel)
theorem Aeg : PySem.W.kitOne K (.type "NoneType") (.type "tuple") = some false := Yp (by decide +kernel)
theorem Ain : PySem.W.kitOne K (.type "str") (.type "tuple") = some false := Yp (by decide +kernel)
theorem Aep : PySem.W.kitOne K (.type "list") (.type "tuple") = some false := Yp (by decide +kernel)
theorem Q7 : PySem.W.kitOne K (.type "tuple") (.type "tuple") = some true := Yp (by decide +kernel)
inductive TyA (K : PySem.W.Frag) (H : Hp) : V -> Value -> Prop where
  | of {v : V} {t : Value} (h : Vv K H v t) : TyA K H v t
  | tup {a : Addr} {xs : List V} (h : SqT K H a xs) : TyA K H (.ref a) (.type "tuple")
theorem T7 {X : Cx} : Ik X (.builtin "isinstance") (fun xs H Q => ∃ x t T b, xs = [x, .ty T] /\ TyA X.K H x t /\ PySem.W.kitOne X.K t (.type T) = some b /\ Q (.bl b) H) := by
  intro pins s σ H xs us Q I r h
  obtain ⟨x, t, T, b, rfl, ht, hk, q⟩ := h
  cases ht with
  | of ht => exact Ua pins s σ H _ us Q I r ⟨x, t, T, b, rfl, ht, hk, q⟩
  | tup hs => exact Acw pins s σ H _ us Q I r ⟨_, _, T, b, rfl, hs, hk, q⟩
theorem isa {H : Hp} {GB : Bool -> Prop} {v : V} {t : Value} {T : String} {b : Bool} (ht : TyA K H v t) (hk : PySem.W.kitOne K t (.type T) = some b) (q : GB b) :
    ∃ x t' T' b', [v, V.ty T] = [x, V.ty T'] /\ TyA K H x t' /\ PySem.W.kitOne K t' (.type T') = some b' /\ GB b' := ⟨v, t, T, b, rfl, ht, hk, q⟩
theorem Um {ini : List Int} {d : Int} : (trim (ini ++ [d]) = ini ++ [d]) = (d ≠ 0) := by
  refine propext ⟨fun h hd => ?_, fun h => Ql (.inr ⟨by simp, by rw [List.getLast_concat]; exact h⟩)⟩
  have := Av (ini ++ [d])
  rw [h] at this
  have z := this.lead (by simp)
  rw [List.length_append, List.length_singleton, Nat.add_sub_cancel, Hy, if_pos rfl] at z
  exact z hd
def Ny (K : PySem.W.Frag) : Sp := Akr K
theorem Zb {f : Addr} {fd : FuncData} (F : Df K mg "is_poly" M6 ["thing"] f fd) (z_isinstance : mg "isinstance" = none) (z_tuple : mg "tuple" = none) (z_all : mg "all" = none) (z_len : mg "len" = none)  (c_is_whole : Cal P w K mg base 1 "is_whole" ["thing"] (Ro K)) : Cal P w K mg base 2 "is_poly" ["thing"] (Ny K) := by
  refine F.cal (F.fn.ok Ye (fun vs H Q E h => ?_) (fun cdv A outer s H vs Q E hr h => ?_))
  . obtain ⟨v, b, rfl, _⟩ := h
    rfl
  obtain ⟨v, b, rfl, hv, k⟩ := h
  refine S.Bd ⟨_, (S.Ac (S.Cy (S.O6 (S.Ms (S.J2 (S.Il (S.Dd T7 rfl z_isinstance PyProof.Rows.boot_isinstance (S.Aa (S.pv 0) (S.Aa (S.Iv (v := .ty "tuple") rfl z_tuple PyProof.Rows.boot_tuple rfl) S.Ab))))) (S.J1 (S.J2 (S.Il (S.Dd (Adt rfl) rfl z_all PyProof.Rows.boot_all (S.Aa (S.Jl (ts := ["weight"]) (fs := []) rfl (Cq.of (sc := Ag M6) (N := ["thing"]) rfl rfl (by decide +kernel)) (S.Q0 (S.pv 0)) (fun _ _ _ => (S.Ax (i := 0) (show List.Nodup (["weight"] : List Str) by decide +kernel) rfl (Or.inl rfl))) (fun _ _ _ => S.Iu) (fun _ _ _ => (S.Ai c_is_whole (hr.mono (by decide)) (S.Aa (S.pv 0) S.Ab)))) S.Ab))))))) (S.Ae (S.Al S.Li)) S.Bb)
      (S.Ae (S.Al (S.Af7 (S.Hv Lq (S.Dd Aw rfl z_len PySem.boot_len (S.Aa (S.pv 0) S.Ab)) S.Ad (Aq _)) (S.Ss (S.Hv Ry (S.Bo Az (S.pv 0) (S.Dr Ci S.Ad) (fun _ _ => rfl)) S.Ad (Aq _))))))), ?_⟩
  contradiction
  cases hv with
  | int i =>
    refine isa (.of (.int i)) Ah1 ?_
    try contradiction
    exact k _ (Same.refl _)
  | non =>
    refine isa (.of .non) Aeg ?_
    try contradiction
    exact k _ (Same.refl _)
  | str x =>
    refine isa (.of (.str x)) Ain ?_
    try contradiction
    exact k _ (Same.refl _)
  | lst e =>
    refine isa (.of (.lst e)) Aep ?_
    try contradiction
    exact k _ (Same.refl _)
  | @bad a es h hl hw hb =>
    refine isa (.tup h) Q7 ?_
    try contradiction
    refine ⟨⟨_, h⟩, fun p1 hp1 => Ju (es := es) (inj := (·.1)) (fun e => .bl e.2) (Nat.le_trans hl (by decide)) hp1 (Sq h) ?_ ?_⟩
    . intro e H2 R he s2 hR
      contradiction
      exact ⟨_, _, rfl, (hw e he).mono s2, hR _ (Same.refl _)⟩
    intro H2 s2 h2
    have em : es.map (fun e => V.bl e.2) = (es.map (·.2)).map V.bl := by rw [List.map_map]; rfl
    rw [em] at h2
    try contradiction
    refine ⟨p1, _, rfl, .of h2, ?_⟩
    rw [hb]
    try contradiction
    exact k _ s2
  | @nums a ns h hl =>
    refine isa (.tup h) Q7 ?_
    try contradiction
    refine ⟨⟨_, h⟩, fun p1 hp1 => Ju (es := ns) (inj := V.int) (fun _ => .bl true) (Nat.le_trans hl (by decide)) hp1 (Sq h) ?_ ?_⟩
    . intro e H2 R he s2 hR
      contradiction
      exact ⟨_, _, rfl, .int e, hR _ (Same.refl _)⟩
    intro H2 s2 h2
    have em : ns.map (fun _ => V.bl true) = (ns.map fun _ => true).map V.bl := by rw [List.map_map]; rfl
    rw [em] at h2
    have ea : (ns.map fun _ => true).all id = true := by simp
    try contradiction
    refine ⟨p1, _, rfl, .of h2, ?_⟩
    rw [ea]
    try contradiction
    refine ⟨a, _, rfl, .inr (s2.tup h), ?_⟩
    rw [List.length_map]
    by_cases h0 : ns = []
    . rw [if_pos (by rw [h0]; rfl)]
      have e : decide (trim ns = ns) = true := decide_eq_true (by rw [h0]; rfl)
      rw [e] at k
      exact k _ s2
    . have hl0 : ¬ ((ns.length : Nat) : Int) = 0 := by
        have := List.length_pos_iff.mpr h0
        omega
      rw [if_neg hl0]
      obtain ⟨ini, d, rfl⟩ : ∃ (i : List Int) (x : Int), ns = i ++ [x] := ⟨_, _, (List.dropLast_concat_getLast h0).symm⟩
      have em2 : (ini ++ [d]).map V.int = ini.map V.int ++ [V.int d] := by rw [List.map_append]; rfl
      refine Ce (s2.tup h) (v := .int d) (by rw [em2]; exact Xi _ _) ?_
      try contradiction
      have e : decide (trim (ini ++ [d]) = ini ++ [d]) = !decide (d = 0) := by
        by_cases hd : d = 0 <;> simp [Um, hd]
      rw [e] at k
      exact k _ s2
theorem Km {H : Hp} {Q : VK} {E : XK} {v : V} {b : Bool} (hv : Th K H v b) (h : ∀ H', Same H H' -> Q (.bl b) H') : Ny K [v] H Q E := ⟨v, b, rfl, hv, h⟩
def hpw (T B : List Int) : Bool := decide (B ≠ []) && (decide (0 < co B (B.length - 1)) && decide (gl (T ++ B) = 1))
def Gb (K : PySem.W.Frag) : Sp := fun vs H Q _ => ∃ (a b : Addr) (T B : List Int), vs = [.ref a, .ref b] /\ SqT K H a (T.map V.int) /\ SqT K H b (B.map V.int) /\ T.length + B.length <= 1000 /\ ∀ H', Same H H' -> Q (.bl (hpw T B)) H'
theorem Kw {f : Addr} {fd : FuncData} (F : Df K mg "has_plain_weights" Eh ["top", "bottom"] f fd)   (c_divisor_of : Cal P w K mg base 2 "divisor_of" ["some"] (Hf K)) : Cal P w K mg base 3 "has_plain_weights" ["top", "bottom"] (Gb K) := by
  refine F.cal (F.fn.ok K3 (fun vs H Q E h => ?_) (fun cdv A outer s H vs Q E hr h => ?_))
  . obtain ⟨a, b, _, _, rfl, _⟩ := h
    rfl
  obtain ⟨a, b, T, B, rfl, ha, hb, hl, k⟩ := h
  refine S.Bd ⟨_, (S.Ae (S.Al (S.Qo (S.Hv (Vl hr.units) (S.pv 1) (S.Ar S.Ab) (Aq _)) (S.Qo (S.Hv Vk (S.Bo Az (S.pv 1) (S.Dr Ci S.Ad) (fun _ _ => rfl)) S.Ad (Aq _)) (S.Ss (S.Hv Lq (S.Ai c_divisor_of (hr.mono (by decide)) (S.Aa (S.Ak Rn (S.pv 0) (S.pv 1)) S.Ab)) S.Ad (Aq _))))))), ?_⟩
  contradiction
  refine ⟨by decide, fun e0 he0 => ?_⟩
  have se := Same.upd he0 (.tup [])
  refine Cv (ms := []) (se.tup hb) (.of Af) ?_
  unfold hpw at k
  by_cases h0 : B = []
  . rw [decide_eq_true h0]
    rw [decide_eq_false (fun z : B ≠ [] => z h0)] at k
    try contradiction
    exact k _ se
  rw [decide_eq_false h0]
  rw [decide_eq_true (show B ≠ [] from h0)] at k
  try contradiction
  refine Ce (se.tup hb) (Hi h0) ?_
  try contradiction
  by_cases h1 : 0 < co B (B.length - 1)
  case neg =>
    rw [if_neg h1]
    rw [decide_eq_false h1] at k
    exact k _ se
  rw [if_pos h1]
  rw [decide_eq_true h1] at k
  refine ⟨a, b, _, _, rfl, rfl, se.tup ha, se.tup hb, by rw [List.length_map, List.length_map]; exact Nat.le_trans hl (by decide), fun z H1 s1 hz => ?_⟩
  try contradiction
  refine ⟨z, T ++ B, rfl, by rw [List.map_append]; exact hz, ?_⟩
  try contradiction
  rw [show decide (((gl (T ++ B) : Nat) : Int) = 1) = decide (gl (T ++ B) = 1) from decide_eq_decide.mpr ⟨fun h => by omega, fun h => by omega⟩]
  exact k _ (se.trans s1)
def QfR (K : PySem.W.Frag) (p q : List Int) (l n : Nat) (Q : VK) (H : Hp) : Prop := ∀ (z : Addr) (H' : Hp) (vT vB : V) (T B : List Int), Same H H' -> SqT K H' z [vT, vB] -> Po K H' vT T l n -> Po K H' vB B l n -> QF p q T B -> Q (.ref z) H'
def Np (K : PySem.W.Frag) : Sp := fun vs H Q E => ∃ (x y : V) (p q : List Int) (l b : Nat), vs = [x, y] /\ Po K H x p l b /\ Po K H y q l b /\ Few l b /\ l <= 8 /\ b <= 8000 /\ (q = [] -> ∀ H', Same H H' -> E (.ref (cA K "NoPart")) none H') /\ (q ≠ [] -> QfR K p q l (b + 81) Q H)
def Wb (K : PySem.W.Frag) : Sp := fun vs H Q _ => ∃ (x y : V) (p q : List Int) (l b : Nat), vs = [x, y] /\ Po K H x p l b /\ Po K H y q l b /\ Few l b /\ l <= 8 /\ b <= 8000 /\ q ≠ [] /\ QfR K p q l (b + 81) Q H
theorem Aa3 (K : PySem.W.Frag) : ∀ vs H Q E, Wb K vs H Q E -> Np K vs H Q E0 := by
  rintro vs H Q E ⟨x, y, p, q, l, b, rfl, hx, hy, f, h1, h2, hq, k⟩
  exact ⟨x, y, p, q, l, b, rfl, hx, hy, f, h1, h2, fun z => (hq z).elim, fun _ => k⟩
theorem Ad0 {p T S : List Int} (tT : Tr T) (tp : Tr p) (np : p ≠ []) (h : ∀ i, co p i = mu S (co T) i) : T.length <= p.length := by
  have d : Dv T p := ⟨1, S, by decide, fun i => by rw [<- h]; omega⟩
  exact (d.len tT tp np).2
theorem Aa0 {H : Hp} {v : V} {a : Addr} {p T S : List Int} {l b : Nat} (hp : Tr p) (lp : p.length <= l) (l8 : l <= 8) (zp : ∀ i, Sz b (co p i)) (h : ∀ i, co p i = mu S (co T) i) (tT : Tr T) (n0 : p = [] -> T = []) (e : v = .ref a) (ha : SqT K H a (T.map V.int)) : Po K H v T l (b + 81) := by
  by_cases hp0 : p = []
  . have := n0 hp0
    subst this
    exact ⟨⟨a, e, ha⟩, tT, Nat.zero_le _, fun i => by rw [Ay]; exact Sz0 (by omega)⟩
  . have ll := Ad0 tT hp hp0 h
    refine ⟨⟨a, e, ha⟩, tT, by omega, fun i => ?_⟩
    have := Ae5 (n := b) h ⟨p.length - 1, hp.lead hp0⟩ (fun i => Nat.le_of_lt (zp i)) (by omega) ll i
    unfold Sz
    exact Nat.lt_of_le_of_lt this (Nat.pow_lt_pow_right (by decide) (by omega))
theorem Agz {p q : List Int} (tp : Tr p) (tq : Tr q) (np : p ≠ []) (nq : q ≠ []) : co (tm p q) ((tm p q).length - 1) = co p (p.length - 1) * co q (q.length - 1) := by
  have l := Ng tp tq np nq
  have h1 := List.length_pos_iff.mpr np
  have h2 := List.length_pos_iff.mpr nq
  rw [Bv, show (tm p q).length - 1 = p.length + q.length - 2 by omega]
  exact Jb _ q _ np nq (by omega)
theorem Akw (a b : List Int) (i : Nat) : ((gl (a ++ b) : Nat) : Int) ∣ co a i := by
  by_cases h : i < a.length
  . rw [Cp h]
    exact Ur _ _ (List.mem_append_left _ (List.getElem_mem h))
  . rw [Bk (by omega)]
    exact Int.dvd_zero _
theorem Ajb (a b : List Int) (i : Nat) : ((gl (a ++ b) : Nat) : Int) ∣ co b i := by
  by_cases h : i < b.length
  . rw [Cp h]
    exact Ur _ _ (List.mem_append_right _ (List.getElem_mem h))
  . rw [Bk (by omega)]
    exact Int.dvd_zero _
theorem Aa6 {p top g T : List Int} {n : Int} (h : ∀ k, co p k = mu top (co g) k) (hT : ∀ i, n * co T i = co top i) (i : Nat) : co p i = mu (g.map (n * ·)) (co T) i := by
  rw [h, Fe, Jp, En (g := fun j => n * co T j) (fun j => (hT j).symm) g i]
  have e := congrFun (Fe (T.map (n * ·)) g) i
  rw [Jp] at e
  rw [<- congrFun (Fe T g) i, e]
  exact (En (fun j => Bw n T j) g i).symm
theorem Ahc {n c d : Int} (h : n * c = d) (h1 : d < 0 -> n < 0) (h2 : 0 < d -> 0 < n) (h0 : d ≠ 0) : 0 < c := by
  refine Classical.byContradiction fun z => ?_
  rcases Int.lt_or_gt_of_ne h0 with q | q
  . have := Int.mul_nonneg_of_nonpos_of_nonpos (Int.le_of_lt (h1 q)) (show c <= 0 by omega)
    omega
  . have := Int.mul_nonneg (Int.le_of_lt (h2 q)) (show 0 <= -c by omega)
    rw [Int.mul_neg] at this
    omega
theorem Aib {p q g top bot : List Int} {n : Int} {b : Nat} (tp : Tr p) (tq : Tr q) (nq : q ≠ []) (gc : Gc p q g) (tt : Tr top) (tb : Tr bot) (et : ∀ k, co p k = mu top (co g) k) (eb : ∀ k, co q k = mu bot (co g) k) (zq : ∀ i, Sz b (co q i)) (hn : n = if co bot (bot.length - 1) < 0 then -((gl (top ++ bot) : Nat) : Int) else ((gl (top ++ bot) : Nat) : Int)) :
    n ≠ 0 /\ Sz b n /\ bot ≠ [] /\ QF p q (top.map fun x => x.fdiv n) (bot.map fun x => x.fdiv n) /\ (∀ i, co p i = mu (g.map (n * ·)) (co (top.map fun x => x.fdiv n)) i) /\ (∀ i, co q i = mu (g.map (n * ·)) (co (bot.map fun x => x.fdiv n)) i) /\ (p = [] -> top = []) := by
  have ng : g ≠ [] := (gc.two.len gc.tr tq nq).1
  have ep : tm top g = p := (Dj _ _).ext tp fun i => by rw [Bv, et]
  have eq : tm bot g = q := (Dj _ _).ext tq fun i => by rw [Bv, eb]
  have nb : bot ≠ [] := fun z => nq (by
    rw [<- eq, z]
    exact (Dj _ _).ext (.inl rfl) fun i => by rw [Bv, Ay]; rfl)
  have lb := tb.lead nb
  have g0 : 0 < gl (top ++ bot) := by
    refine Nat.pos_of_ne_zero fun z => lb ?_
    have := Ajb top bot (bot.length - 1)
    rw [z] at this
    exact Int.zero_dvd.mp this
  have n0 : n ≠ 0 := by rw [hn]; split <;> omega
  have na : n.natAbs = gl (top ++ bot) := by rw [hn]; split <;> omega
  have nd : ∀ {x : Int}, ((gl (top ++ bot) : Nat) : Int) ∣ x -> n ∣ x := fun {x} h => by
    rw [hn]
    split
    . exact Int.neg_dvd.mpr h
    . exact h
  have dT := fun i => nd (Akw top bot i)
  have dB := fun i => nd (Ajb top bot i)
  have hT : ∀ i, n * co (top.map fun x => x.fdiv n) i = co top i := fun i => by rw [Oh, Q8 n0 (dT i)]
  have hB : ∀ i, n * co (bot.map fun x => x.fdiv n) i = co bot i := fun i => by rw [Oh, Q8 n0 (dB i)]
  refine ⟨n0, ?_, nb, ?_, Aa6 et hT, Aa6 eb hB, fun hp => Classical.byContradiction fun z => Afm tt gc.tr z ng (by rw [ep, hp])⟩
  . have l1 := Agz tb gc.tr nb ng
    rw [eq] at l1
    have gl0 := gc.tr.lead ng
    refine (zq (q.length - 1)).of_abs ?_
    rw [na, l1, Int.natAbs_mul]
    have h1 : gl (top ++ bot) <= (co bot (bot.length - 1)).natAbs := Nat.le_of_dvd (Int.natAbs_pos.mpr lb) (by
      have := Int.natAbs_dvd_natAbs.mpr (Ajb top bot (bot.length - 1))
      rwa [Int.natAbs_natCast] at this)
    exact Nat.le_trans h1 (Nat.le_mul_of_pos_right _ (Int.natAbs_pos.mpr gl0))
  . refine QF.make tq nq tt tb gc ep eq n0 (Tn n0 tt dT) (Tn n0 tb dB) hT hB ?_ na
    rw [List.length_map]
    refine Ahc (hB _) (fun z => ?_) (fun z => ?_) lb
    . rw [hn, if_pos z]
      omega
    . rw [hn, if_neg (by omega)]
      omega
theorem Af1 {f : Addr} {fd : FuncData} (F : Df K mg "q_of" Z0 ["p", "q"] f fd)  (xk_NoPart : V3 K (cA K "NoPart")) (xm_NoPart : mg "NoPart" = some (.ref (cA K "NoPart"))) (c_shared : Cal P w K mg base 9 "shared" ["one", "other"] (Nh K)) (ce_whole_part : Nq P w K mg base 3 "whole_part" ["one", "other"] (Mg K)) (c_divisor_of : Cal P w K mg base 2 "divisor_of" ["some"] (Hf K)) (c_shrunk : Cal P w K mg base 1 "shrunk" ["one", "number"] (Ij K)) : Nq P w K mg base 10 "q_of" ["p", "q"] (Np K) := by
  refine F.calE (F.fn.okE Ob (fun vs H Q E h => ?_) (fun cdv A outer s H vs Q E hr h => ?_))
  . obtain ⟨x, y, p, q, _, _, rfl, _⟩ := h
    rfl
  obtain ⟨x, y, p, q, l, b, rfl, hx, hy, few, l8, hb, k0, k⟩ := h
  have fb := few.bits
  have bigE := Xm
  obtain ⟨f1, f2, f3, f4⟩ := id few
  obtain ⟨⟨aq, eq, hq⟩, tq, lq, zq⟩ := id hy
  subst eq
  refine S.Bd ⟨_, (S.Ac (S.Cy (S.Aj (Im hr.units) (S.pv 1) (S.Ar S.Ab) (Aq _)) (S.Ae (S.Em xk_NoPart xm_NoPart (S.Aa S.Qj S.Ab))) S.Bb)
      (S.Ac (S.Ah (i := 2) Ob.nd rfl (Or.inl rfl) (S.Ai c_shared (hr.mono (by decide)) (S.Aa (S.pv 0) (S.Aa (S.pv 1) S.Ab))))
      (S.Ac (S.Ah (i := 3) Ob.nd rfl (Or.inl rfl) (S.Dk ce_whole_part (hr.mono (by decide)) (S.Aa (S.pv 0) (S.Aa (S.pv 2) S.Ab))))
      (S.Ac (S.Ah (i := 4) Ob.nd rfl (Or.inl rfl) (S.Dk ce_whole_part (hr.mono (by decide)) (S.Aa (S.pv 1) (S.Aa (S.pv 2) S.Ab))))
      (S.Ac (S.Ah (i := 5) Ob.nd rfl (Or.inl rfl) (S.Ai c_divisor_of (hr.mono (by decide)) (S.Aa (S.Ak Rn (S.pv 3) (S.pv 4)) S.Ab)))
      (S.Ac (S.Cy (S.Aj Tt (S.Bo Az (S.pv 4) (S.Dr Ci S.Ad) (fun _ _ => rfl)) S.Ad (Aq _)) (S.Ae (S.Ah (i := 5) Ob.nd rfl (Or.inl rfl) (S.Dr Ci (S.pv 5)))) S.Bb)
      (S.Ae (S.Al (S.Ar (S.Aa (S.Ai c_shrunk (hr.mono (by decide)) (S.Aa (S.pv 3) (S.Aa (S.pv 5) S.Ab))) (S.Aa (S.Ai c_shrunk (hr.mono (by decide)) (S.Aa (S.pv 4) (S.Aa (S.pv 5) S.Ab))) S.Ab))))))))))), ?_⟩
  contradiction
  refine ⟨by decide, fun e0 he0 => ?_⟩
  have se := Same.upd he0 (.tup [])
  refine Cv (ms := []) (se.tup hq) (.of Af) ?_
  by_cases nq : q = []
  . rw [decide_eq_true nq]
    try contradiction
    exact k0 nq _ se
  rw [decide_eq_false nq]
  replace k := k nq
  try contradiction
  refine Xq hx se hy se few fun vg H1 g s1 ig gc => ?_
  have s01 := se.trans s1
  have ng : g ≠ [] := (gc.two.len gc.tr tq nq).1
  have pg : Prim g := by
    have := Jg gc.tr ng
    rwa [gc.pl] at this
  try contradiction
  refine ⟨x, vg, p, g, l, 2 * l, b, _, rfl, hx.mono s01, ig, by omega, by omega, by omega, fb, fun z => absurd z ng, fun _ => ⟨fun ne => absurd (Ke gc.tr ng pg gc.one) ne, fun vt H2 top s2 it et => ?_⟩⟩
  try contradiction
  refine ⟨_, vg, q, g, l, 2 * l, b, _, rfl, hy.mono (s01.trans s2), ig.mono s2, by omega, by omega, by omega, fb, fun z => absurd z ng, fun _ => ⟨fun ne => absurd (Ke gc.tr ng pg gc.two) ne, fun vb H3 bot s3 ib eb => ?_⟩⟩
  have s03 := (s01.trans s2).trans s3
  obtain ⟨⟨at_, rfl, ht⟩, tt, lt, _⟩ := id (it.mono s3)
  obtain ⟨⟨ab, rfl, hb⟩, tb, lb, _⟩ := id ib
  obtain ⟨n, hn⟩ : ∃ n, n = if co bot (bot.length - 1) < 0 then -((gl (top ++ bot) : Nat) : Int) else ((gl (top ++ bot) : Nat) : Int) := ⟨_, rfl⟩
  obtain ⟨n0, zn, nb, qf, ep, eq, top0⟩ := Aib hx.2.1 tq nq gc tt tb et eb zq hn
  try contradiction
  refine ⟨at_, ab, _, _, rfl, rfl, ht, hb, by rw [List.length_map, List.length_map]; exact Nat.le_trans (show top.length + bot.length <= 120 by omega) (by decide), fun z4 H4 s4 h4 => ?_⟩
  try contradiction
  refine ⟨z4, top ++ bot, rfl, by rw [List.map_append]; exact h4, ?_⟩
  try contradiction
  refine Ce (s4.tup hb) (Hi nb) ?_
  try contradiction
  have fin : Ij K [V.ref at_, V.int n] H4 (fun x H1 => Ij K [V.ref ab, V.int n] H1 (fun x_1 H1 => ∀ (p : Addr), H1 p = none -> Q (V.ref p) (upd H1 p (HO.tup [x, x_1]))) E0) E0 := by
    refine ⟨at_, top, n, rfl, s4.tup ht, by omega, fun _ => ⟨n0, zn.mono (by omega)⟩, fun z5 H5 s5 h5 => ?_⟩
    refine ⟨ab, bot, n, rfl, (s4.trans s5).tup hb, by omega, fun _ => ⟨n0, zn.mono (by omega)⟩, fun z6 H6 s6 h6 => ?_⟩
    intro p7 hp7
    have s7 := Same.upd hp7 (.tup [V.ref z5, V.ref z6])
    exact k p7 _ (.ref z5) (.ref z6) _ _ (((s03.trans s4).trans (s5.trans s6)).trans s7) (.of Af) (Aa0 hx.2.1 hx.2.2.1 l8 hx.2.2.2 ep qf.tT (fun hp => by rw [top0 hp]; rfl) rfl ((s6.trans s7).tup h5)) (Aa0 tq lq l8 zq eq qf.tB (fun hq => absurd hq nq) rfl (s7.tup h6)) qf
  split
  . rename_i hneg
    rw [if_pos hneg] at hn
    rw [<- hn]
    exact fin
  . rename_i hneg
    rw [if_neg hneg] at hn
    rw [<- hn]
    exact fin
open Classical in
noncomputable def Ach (T B : List Int) : Bool := decide (∃ g, Gc T B g /\ g.length = 1)
open Classical in
theorem Agl {T B g : List Int} (hg : Gc T B g) : Ach T B = decide (g.length = 1) := by
  unfold Ach
  by_cases e : g.length = 1
  . rw [decide_eq_true e]
    exact decide_eq_true ⟨g, hg, e⟩
  . rw [decide_eq_false e]
    refine decide_eq_false ?_
    rintro ⟨g', hg', e'⟩
    rw [hg'.uniq hg] at e'
    exact e e'
inductive Tq (K : PySem.W.Frag) (H : Hp) : V -> Bool -> Prop where
  | yes {a : Addr} {u v : V} {T B : List Int} {l b : Nat} (h : SqT K H a [u, v]) (hu : Po K H u T l b) (hv : Po K H v B l b) (few : Few l b) (hw : hpw T B = true) : Tq K H (.ref a) (Ach T B)
  | noW {a c d : Addr} {T B : List Int} (h : SqT K H a [.ref c, .ref d]) (hc : SqT K H c (T.map V.int)) (hd : SqT K H d (B.map V.int)) (lT : T.length <= 100) (lB : B.length <= 100) (hw : hpw T B = false) : Tq K H (.ref a) false
  | bad {a : Addr} {u v : V} {bu bv : Bool} (h : SqT K H a [u, v]) (hu : Th K H u bu) (hv : Th K H v bv) (hb : bu = false \/ bv = false) : Tq K H (.ref a) false
  | long {a : Addr} {xs : List V} (h : SqT K H a xs) (hl : xs.length ≠ 2) : Tq K H (.ref a) false
  | non : Tq K H .non false
  | lst {a : Addr} {xs : List V} (e : H a = some (.lst xs)) : Tq K H (.ref a) false
theorem Tq.mono {H H' : Hp} {v : V} {b : Bool} (h : Tq K H v b) (s : Same H H') : Tq K H' v b := by
  cases h with
  | yes h hu hv few hw => exact .yes (s.tup h) (hu.mono s) (hv.mono s) few hw
  | noW h hc hd lT lB hw => exact .noW (s.tup h) (s.tup hc) (s.tup hd) lT lB hw
  | bad h hu hv hb => exact .bad (s.tup h) (hu.mono s) (hv.mono s) hb
  | long h hl => exact .long (s.tup h) hl
  | non => exact .non
  | lst e => exact .lst (s _ _ e)
def Mh (K : PySem.W.Frag) : Sp := fun vs H Q _ => ∃ v b, vs = [v] /\ Tq K H v b /\ ∀ H', Same H H' -> Q (.bl b) H'
theorem R4 {f : Addr} {fd : FuncData} (F : Df K mg "is_quotient" Jf ["thing"] f fd) (z_isinstance : mg "isinstance" = none) (z_tuple : mg "tuple" = none) (z_len : mg "len" = none)  (c_degree : Cal P w K mg base 1 "degree" ["one"] (Dq K)) (c_is_poly : Cal P w K mg base 2 "is_poly" ["thing"] (Ny K)) (c_has_plain_weights : Cal P w K mg base 3 "has_plain_weights" ["top", "bottom"] (Gb K)) (c_shared : Cal P w K mg base 9 "shared" ["one", "other"] (Nh K)) : Cal P w K mg base 10 "is_quotient" ["thing"] (Mh K) := by
  refine F.cal (F.fn.ok Ia (fun vs H Q E h => ?_) (fun cdv A outer s H vs Q E hr h => ?_))
  . obtain ⟨v, b, rfl, _⟩ := h
    rfl
  obtain ⟨v, b, rfl, hv, k⟩ := h
  refine S.Bd ⟨_, (S.Ac (S.Cy (S.O6 (S.Ms (S.J2 (S.Il (S.Dd T7 rfl z_isinstance PyProof.Rows.boot_isinstance (S.Aa (S.pv 0) (S.Aa (S.Iv (v := .ty "tuple") rfl z_tuple PyProof.Rows.boot_tuple rfl) S.Ab))))) (S.J1 (S.Aj Ry (S.Dd Aw rfl z_len PySem.boot_len (S.Aa (S.pv 0) S.Ab)) S.Ad (Aq _))))) (S.Ae (S.Al S.Li)) S.Bb)
      (S.Ac (S.Es (S.pv 0) (S.Fz rfl (S.Bl (S.Ax (i := 1) Ia.nd rfl (Or.inl rfl)) (S.Bl (S.Ax (i := 2) Ia.nd rfl (Or.inl rfl)) S.Ek))))
      (S.Ac (S.Cy (S.O6 (S.Ms (S.J2 (S.Il (S.Ai c_is_poly (hr.mono (by decide)) (S.Aa (S.pv 1) S.Ab)))) (S.Ms (S.J2 (S.Il (S.Ai c_is_poly (hr.mono (by decide)) (S.Aa (S.pv 2) S.Ab)))) (S.J1 (S.J2 (S.Il (S.Ai c_has_plain_weights (hr.mono (by decide)) (S.Aa (S.pv 1) (S.Aa (S.pv 2) S.Ab))))))))) (S.Ae (S.Al S.Li)) S.Bb)
      (S.Ae (S.Al (S.Hv Lq (S.Ai c_degree (hr.mono (by decide)) (S.Aa (S.Ai c_shared (hr.mono (by decide)) (S.Aa (S.pv 1) (S.Aa (S.pv 2) S.Ab))) S.Ab)) S.Ad (Aq _))))))), ?_⟩
  contradiction
  cases hv with
  | non =>
    refine isa (.of .non) Aeg ?_
    try contradiction
    exact k _ (Same.refl _)
  | lst e =>
    refine isa (.of (.lst e)) Aep ?_
    try contradiction
    exact k _ (Same.refl _)
  | @long a xs h hl =>
    refine isa (.tup h) Q7 ?_
    contradiction
    refine ⟨_, _, rfl, .inr h, ?_⟩
    try contradiction
    rw [if_neg (show ¬ ((xs.length : Nat) : Int) = 2 by omega)]
    exact k _ (Same.refl _)
  | @bad a u v bu bv h hu hv hb =>
    refine isa (.tup h) Q7 ?_
    contradiction
    refine ⟨_, _, rfl, .inr h, ?_⟩
    contradiction
    refine Ir h ?_
    contradiction
    refine Km hu fun H1 s1 => ?_
    try contradiction
    cases bu with
    | false =>
      try contradiction
      exact k _ s1
    | true =>
      try contradiction
      refine Km (hv.mono s1) fun H2 s2 => ?_
      have e : bv = false := by simpa using hb
      subst e
      try contradiction
      exact k _ (s1.trans s2)
  | @noW a c d T B h hc hd lT lB hw =>
    refine isa (.tup h) Q7 ?_
    contradiction
    refine ⟨_, _, rfl, .inr h, ?_⟩
    contradiction
    refine Ir h ?_
    contradiction
    refine Km (.nums hc (by omega)) fun H1 s1 => ?_
    by_cases tT : trim T = T
    case neg =>
      rw [decide_eq_false tT]
      try contradiction
      exact k _ s1
    rw [decide_eq_true tT]
    try contradiction
    refine Km (.nums (s1.tup hd) (by omega)) fun H2 s2 => ?_
    by_cases tB : trim B = B
    case neg =>
      rw [decide_eq_false tB]
      try contradiction
      exact k _ (s1.trans s2)
    rw [decide_eq_true tB]
    try contradiction
    refine ⟨c, d, T, B, rfl, (s1.trans s2).tup hc, (s1.trans s2).tup hd, by omega, fun H3 s3 => ?_⟩
    rw [hw]
    try contradiction
    exact k _ ((s1.trans s2).trans s3)
  | @yes a u v T B l b h hu hv few hw =>
    have f1 := few.1
    obtain ⟨⟨c, rfl, hc⟩, tT, lT, _⟩ := id hu
    obtain ⟨⟨d, rfl, hd⟩, tB, lB, _⟩ := id hv
    refine isa (.tup h) Q7 ?_
    contradiction
    refine ⟨_, _, rfl, .inr h, ?_⟩
    contradiction
    refine Ir h ?_
    contradiction
    refine Km (.nums hc (by omega)) fun H1 s1 => ?_
    rw [decide_eq_true (Ql tT)]
    try contradiction
    refine Km (.nums (s1.tup hd) (by omega)) fun H2 s2 => ?_
    rw [decide_eq_true (Ql tB)]
    try contradiction
    refine ⟨c, d, T, B, rfl, (s1.trans s2).tup hc, (s1.trans s2).tup hd, by omega, fun H3 s3 => ?_⟩
    rw [hw]
    try contradiction
    have s03 := (s1.trans s2).trans s3
    refine Xq hu s03 hv s03 few fun z H4 g s4 ig gc => ?_
    try contradiction
    refine Cd ig (Same.refl _) ?_
    try contradiction
    have e : decide (((g.length : Nat) : Int) - 1 = 0) = Ach T B := by
      rw [Agl gc]
      exact decide_eq_decide.mpr ⟨fun h => by omega, fun h => by omega⟩
    rw [e]
    exact k _ (s03.trans s4)
def Pq (K : PySem.W.Frag) : Sp := fun vs H Q E => ∃ (x y : V) (p : List Int) (l b : Nat), vs = [x, y] /\ Po K H x p l b /\ Po K H y [] l b /\ Few l b /\ l <= 8 /\ b <= 8000 /\ ∀ H', Same H H' -> E (.ref (cA K "NoPart")) none H'
theorem Ze {f : Addr} {fd : FuncData} (F : Df K mg "q_paper" Qk ["p", "q"] f fd)   (ce_q_of : Nq P w K mg base 10 "q_of" ["p", "q"] (Np K)) : Nq P w K mg base 11 "q_paper" ["p", "q"] (Pq K) := by
  refine F.calE (F.fn.okE Oe (fun vs H Q E h => ?_) (fun cdv A outer s H vs Q E hr h => ?_))
  . obtain ⟨x, y, p, _, _, rfl, _⟩ := h
    rfl
  obtain ⟨x, y, p, l, b, rfl, hx, hy, few, l8, hb, k⟩ := h
  refine S.Bd ⟨_, (S.Ac (S.Es (S.Dk ce_q_of (hr.mono (by decide)) (S.Aa (S.pv 0) (S.Aa (S.pv 1) S.Ab))) (S.Fz rfl (S.Bl (S.Ax (i := 2) Oe.nd rfl (Or.inl rfl)) (S.Bl (S.Ax (i := 3) Oe.nd rfl (Or.inl rfl)) S.Ek))))
      (S.Ac S.M5
      (S.Ae (S.Al (S.Ar (S.Aa (S.pv 2) (S.Aa (S.pv 3) (S.Aa (S.pv 4) (S.Aa (S.pv 5) (S.Aa (S.pv 6) S.Ab)))))))))), ?_⟩
  contradiction
  exact ⟨x, y, p, [], l, b, rfl, hx, hy, few, l8, hb, fun _ => k, fun z => absurd rfl z⟩
def Sv (K : PySem.W.Frag) : Sp := fun vs H Q E => ∃ (a c : Addr) (u v x y : V) (T B D : List Int), vs = [.ref a, .ref c] /\ SqT K H a [u, v] /\ SqT K H c [x, y] /\ Po K H u T 4 102 /\ Po K H v B 4 102 /\ Po K H x [] 1 1 /\ Po K H y D 1 1 /\ ∀ H', Same H H' -> E (.ref (cA K "NoPart")) none H'
theorem Ih {H : Hp} {p : List Int} {v : V} {l n l2 n2 : Nat} (h : Po K H v p l n) (h1 : l <= l2) (h2 : n <= n2) : Po K H v p l2 n2 := ⟨h.1, h.2.1, Nat.le_trans h.2.2.1 h1, fun i => (h.2.2.2 i).mono h2⟩
theorem Hq {H H1 H2 : Hp} {Q : VK} {E : XK} {x y : V} {p q : List Int} {l l' n n' : Nat} (hx : Po K H1 x p l n) (s1 : Same H1 H) (hy : Po K H2 y q l' n') (s2 : Same H2 H) (b1 : l <= 500) (b2 : l' <= 500) (b3 : n + n' <= 100000000) (h : ∀ z H', Same H H' -> Po K H' z (tm p q) (l + l') (n + n' + l) -> Q z H') : Ds K [x, y] H Q E :=
  ⟨x, y, p, q, l, l', n, n', rfl, hx.mono s1, hy.mono s2, b1, b2, b3, h⟩
theorem Ajh : Few 8 107 := ⟨by decide, by decide, by decide, by decide⟩
theorem Aau (p : List Int) : tm p [] = [] := (Dj _ _).ext (.inl rfl) fun i => by rw [Bq, Bv, Ay]; rfl
theorem Ab0 {f : Addr} {fd : FuncData} (F : Df K mg "q_over" Tp ["f", "g"] f fd)   (ce_q_of : Nq P w K mg base 10 "q_of" ["p", "q"] (Np K)) (c_p_times : Cal P w K mg base 1 "p_times" ["one", "other"] (Ds K)) : Nq P w K mg base 11 "q_over" ["f", "g"] (Sv K) := by
  refine F.calE (F.fn.okE Zh (fun vs H Q E h => ?_) (fun cdv A outer s H vs Q E hr h => ?_))
  . obtain ⟨a, c, _, _, _, _, _, _, _, rfl, _⟩ := h
    rfl
  obtain ⟨a, c, u, v, x, y, T, B, D, rfl, ha, hc, hu, hv, hx, hy, k⟩ := h
  refine S.Bd ⟨_, (S.Ae (S.Al (S.Dk ce_q_of (hr.mono (by decide)) (S.Aa (S.Ai c_p_times (hr.mono (by decide)) (S.Aa (S.Bo Az (S.pv 0) S.Ad (fun _ _ => rfl)) (S.Aa (S.Bo Az (S.pv 1) S.Ad (fun _ _ => rfl)) S.Ab))) (S.Aa (S.Ai c_p_times (hr.mono (by decide)) (S.Aa (S.Bo Az (S.pv 0) S.Ad (fun _ _ => rfl)) (S.Aa (S.Bo Az (S.pv 1) S.Ad (fun _ _ => rfl)) S.Ab))) S.Ab))))), ?_⟩
  contradiction
  refine Ce ha (at0 _ _) (Ce hc (at1 _ _ _) ?_)
  refine Hq hu (Same.refl _) hy (Same.refl _) (by decide) (by decide) (by decide) fun z1 H1 s1 i1 => ?_
  try contradiction
  refine Ce (s1.tup ha) (at1 _ _ _) (Ce (s1.tup hc) (at0 _ _) ?_)
  refine Hq hv s1 hx s1 (by decide) (by decide) (by decide) fun z2 H2 s2 i2 => ?_
  try contradiction
  rw [Aau] at i2
  exact ⟨z1, z2, _, [], 8, 107, rfl, Ih (i1.mono s2) (by decide) (by decide), Ih i2 (by decide) (by decide), Ajh, by decide, by decide, fun _ H' s' => k H' ((s1.trans s2).trans s'), fun z => absurd rfl z⟩
def J0 (K : PySem.W.Frag) : Sp := fun vs H Q E => ∃ a b : Int, vs = [.int a, .int b] /\ ((b = 0 /\ E (.ref (cA K "NoPart")) none H) \/ (b = 1 /\ ∀ z H', Same H H' -> SqT K H' z [.int a, .int 1] -> Q (.ref z) H'))
def Qh (K : PySem.W.Frag) : Sp := fun vs H Q _ => ∃ a : Int, vs = [.int a, .int 1] /\ ∀ z H', Same H H' -> SqT K H' z [.int a, .int 1] -> Q (.ref z) H'
theorem T6 (K : PySem.W.Frag) : ∀ vs H Q E, Qh K vs H Q E -> J0 K vs H Q E0 := by
  rintro vs H Q E ⟨a, rfl, k⟩
  exact ⟨a, 1, rfl, .inr ⟨rfl, k⟩⟩
theorem Wr {f : Addr} {fd : FuncData} (F : Df K mg "fraction" Ol ["top", "bottom"] f fd)  (xm_shared : mg "shared" = some (.ref (cA K "shared"))) (xk_NoPart : V3 K (cA K "NoPart")) (xm_NoPart : mg "NoPart" = some (.ref (cA K "NoPart"))) (c_divisor : Cal P w K mg base 1 "divisor" ["one", "other"] (Kc K)) : Nq P w K mg base 2 "fraction" ["top", "bottom"] (J0 K) := by
  refine F.calE (F.fn.okE Mw (fun vs H Q E h => ?_) (fun cdv A outer s H vs Q E hr h => ?_))
  . obtain ⟨a, b, rfl, _⟩ := h
    rfl
  obtain ⟨a, b, rfl, h⟩ := h
  refine S.Bd ⟨_, (S.Ac (S.Cy (S.Aj Lq (S.pv 1) S.Ad (Aq _)) (S.Ae (S.Em xk_NoPart xm_NoPart (S.Aa S.Qj S.Ab))) S.Bb)
      (S.Ac (S.Ah (i := 2) Mw.nd rfl (Or.inl rfl) (S.Ai c_divisor (hr.mono (by decide)) (S.Aa (S.pv 0) (S.Aa (S.pv 1) S.Ab))))
      (S.Ac (S.Cy (S.Aj Tt (S.pv 1) S.Ad (Aq _)) (S.Ae (S.Ah (i := 2) Mw.nd rfl (Or.inl rfl) (S.Dr Ci (S.pv 2)))) S.Bb)
      (S.Ae (S.Al (S.Ar (S.Aa (S.Ak Jj (S.pv 0) (S.pv 2)) (S.Aa (S.Ak Jj (S.pv 1) (S.pv 2)) S.Ab)))))))), ?_⟩
  contradiction
  rcases h with ⟨rfl, k⟩ | ⟨rfl, k⟩
  . rw [if_pos rfl]
    exact k
  . rw [if_neg (by decide)]
    refine ⟨a, 1, rfl, ?_⟩
    rw [Int.gcd_one_right]
    try contradiction
    rw [if_neg (by decide)]
    refine ⟨⟨by decide, by decide⟩, ⟨by decide, by decide⟩, ?_⟩
    have e1 : a.fdiv ((1 : Nat) : Int) = a := by simp
    have e2 : (1 : Int).fdiv ((1 : Nat) : Int) = 1 := by decide
    rw [e1, e2]
    exact fun q hq => k q _ (Same.upd hq _) (.of Af)
def Xe (K : PySem.W.Frag) : Sp := fun vs H Q E => ∃ (a b : Addr) (t : Int), vs = [.ref a, .ref b] /\ SqT K H a [.int t, .int 1] /\ SqT K H b [.int 0, .int 1] /\ Sz 100 t /\ E (.ref (cA K "NoPart")) none H
theorem Afj {f : Addr} {fd : FuncData} (F : Df K mg "over" Aa4 ["one", "other"] f fd)   (ce_fraction : Nq P w K mg base 2 "fraction" ["top", "bottom"] (J0 K)) : Nq P w K mg base 3 "over" ["one", "other"] (Xe K) := by
  refine F.calE (F.fn.okE Afh (fun vs H Q E h => ?_) (fun cdv A outer s H vs Q E hr h => ?_))
  . obtain ⟨a, b, t, rfl, _⟩ := h
    rfl
  obtain ⟨a, b, t, rfl, ha, hb, zt, k⟩ := h
  refine S.Bd ⟨_, (S.Ae (S.Al (S.Dk ce_fraction (hr.mono (by decide)) (S.Aa (S.Ak Cr (S.Bo Az (S.pv 0) S.Ad (fun _ _ => rfl)) (S.Bo Az (S.pv 1) S.Ad (fun _ _ => rfl))) (S.Aa (S.Ak Cr (S.Bo Az (S.pv 0) S.Ad (fun _ _ => rfl)) (S.Bo Az (S.pv 1) S.Ad (fun _ _ => rfl))) S.Ab))))), ?_⟩
  contradiction
  refine Ce ha (at0 _ _) (Ce hb (at1 _ _ _) ?_)
  have z1 : Sz 1 (1 : Int) := by unfold Sz; decide
  have z0 : Sz 1 (0 : Int) := by unfold Sz; decide
  try contradiction
  refine ⟨zt.mulOk z1 (by decide), Ce ha (at1 _ _ _) (Ce hb (at0 _ _) ?_)⟩
  try contradiction
  exact ⟨z1.mulOk z0 (by decide), _, _, rfl, .inl ⟨rfl, k⟩⟩
theorem Xa {f : Int} {u : Nat} (hf : Sz u f) : ∀ m : Nat, Sz (u * m + 1) (f ^ m)
  | 0 => by rw [Int.pow_zero, Nat.mul_zero]; unfold Sz; decide
  | m + 1 => by
    rw [Int.pow_succ, Nat.mul_succ]
    exact ((Xa hf m).mul hf).mono (by omega)
theorem Ah4 {t b : Int} {n u : Nat} (ht : Sz u t) (hb : Sz u b) : ∀ p : List Int, (∀ x ∈ p, Sz n x) -> Sz (n + (u + 2) * p.length) (hv p t b)
  | [], _ => Nat.pow_pos (by decide)
  | w :: r, h => by
    have z1 := Ah4 ht hb r fun x hx => h x (List.mem_cons_of_mem _ hx)
    have z2 := (h w (by simp)).mul (Xa hb r.length)
    rw [hv]
    have e : u * r.length <= (u + 2) * r.length := Nat.mul_le_mul_right _ (by omega)
    refine ((z1.mul ht).add z2).mono ?_
    rw [List.length_cons, Nat.mul_succ]
    omega
def Mi (K : PySem.W.Frag) : Sp := fun vs H Q _ => ∃ (a c : Addr) (p : List Int) (t : Int), vs = [.ref a, .ref c] /\ SqT K H a (p.map V.int) /\ p.length <= 8 /\ (∀ x ∈ p, Sz 10 x) /\ SqT K H c [.int t, .int 1] /\ Sz 10 t /\ Q (.int (hv p t 1)) H
theorem Ru {f : Addr} {fd : FuncData} (F : Df K mg "whole_value" Jc ["one", "point"] f fd) (z_reversed : mg "reversed" = none)   : Cal P w K mg base 1 "whole_value" ["one", "point"] (Mi K) := by
  refine F.cal (F.fn.ok Cg (fun vs H Q E h => ?_) (fun cdv A outer s H vs Q E hr h => ?_))
  . obtain ⟨a, v, _, _, rfl, _⟩ := h
    rfl
  obtain ⟨a, c, p, x, rfl, ha, hl, hw, hc, zx, k⟩ := h
  have zy : Sz 10 (1 : Int) := by unfold Sz; decide
  refine S.Bd ⟨_, (S.Ac (S.Es (S.pv 1) (S.Fz rfl (S.Bl (S.Ax (i := 5) Cg.nd rfl (Or.inl rfl)) (S.Bl (S.Ax (i := 6) Cg.nd rfl (Or.inl rfl)) S.Ek))))
      (S.Ac (S.Ah (i := 2) Cg.nd rfl (Or.inl rfl) S.Ad)
      (S.Ac (S.Ah (i := 3) Cg.nd rfl (Or.inl rfl) S.Ad)
      (S.Ac (S.Ey PassesOwn.never rfl (S.Adh rfl z_reversed (S.Aa (S.pv 0) S.Ab)) (S.Ax (i := 4) Cg.nd rfl (Or.inl rfl)) (S.Ac (S.Ah (i := 2) Cg.nd rfl (Or.inl rfl) (S.Ak Cw (S.Ak Cr (S.pv 2) (S.pv 5)) (S.Ak Cr (S.pv 4) (S.pv 3))))
      (S.Ae (S.Ah (i := 3) Cg.nd rfl (Or.inl rfl) (S.Ak Cr (S.pv 3) (S.pv 6))))))
      (S.Ae (S.Al (S.pv 2))))))), ?_⟩
  contradiction
  refine Ir hc ?_
  contradiction
  refine ⟨_, ha, ?_⟩
  rw [List.length_map]
  refine Ado (es := p.reverse) (inj := V.int) (fun pre σ H' => H' = H /\ ∃ o : Option V, σ = [some (.ref a), some (.ref c), some (.int (hv pre.reverse x 1)), some (.int ((1 : Int) ^ pre.length)), o, some (.int x), some (.int 1)]) ⟨rfl, none, by simp [hv]⟩ ?_ ?_ ?_
  . rintro pre σ H' ⟨rfl, _⟩
    exact Ag6 ha
  . rintro pre e post σ H' he ⟨rfl, o, rfl⟩
    have hpl : pre.length <= 8 := by
      have := congrArg List.length he
      simp at this
      omega
    have mem : ∀ z ∈ pre.reverse, Sz 10 z := fun z hz => hw z (by
      have : z ∈ p.reverse := by rw [he]; exact List.mem_append_left _ (List.mem_reverse.mp hz)
      exact List.mem_reverse.mp this)
    have he' : Sz 10 e := hw e (by
      have : e ∈ p.reverse := by rw [he]; simp
      exact List.mem_reverse.mp this)
    have z1 := Ah4 zx zy pre.reverse mem
    rw [List.length_reverse] at z1
    have z2 := Xa zy pre.length
    contradiction
    refine ⟨z1.mulOk zx (by omega), he'.mulOk z2 (by omega), z2.mulOk zy (by omega), ?_⟩
    try contradiction
    refine ⟨some (.int e), ?_⟩
    rw [List.reverse_append, List.reverse_singleton, List.singleton_append, hv, List.length_reverse, List.length_append, List.length_singleton, Int.pow_succ]
  . rintro σ H' ⟨rfl, o, rfl⟩
    contradiction
    rw [List.reverse_reverse]
    exact k
def Xj (K : PySem.W.Frag) : Sp := fun vs H Q _ => ∃ (x : V) (c : Addr) (p : List Int) (t : Int), vs = [x, .ref c] /\ Po K H x p 8 10 /\ p ≠ [] /\ SqT K H c [.int t, .int 1] /\ Sz 10 t /\ ∀ z H', Same H H' -> SqT K H' z [.int (hv p t 1), .int 1] -> Q (.ref z) H'
theorem Acv {f : Addr} {fd : FuncData} (F : Df K mg "value" W9 ["one", "point"] f fd)   (c_fraction : Cal P w K mg base 2 "fraction" ["top", "bottom"] (Qh K)) (c_whole_value : Cal P w K mg base 1 "whole_value" ["one", "point"] (Mi K)) (c_whole_power : Cal P w K mg base 4 "whole_power" ["number", "many"] (Di K)) (c_degree : Cal P w K mg base 1 "degree" ["one"] (Dq K)) : Cal P w K mg base 5 "value" ["one", "point"] (Xj K) := by
  refine F.cal (F.fn.ok Adw (fun vs H Q E h => ?_) (fun cdv A outer s H vs Q E hr h => ?_))
  . obtain ⟨x, c, _, _, rfl, _⟩ := h
    rfl
  obtain ⟨x, c, p, t, rfl, hx, np, hc, zt, k⟩ := h
  obtain ⟨⟨a, rfl, ha⟩, tp, lp, zp⟩ := id hx
  have p1 := List.length_pos_iff.mpr np
  refine S.Bd ⟨_, (S.Ae (S.Al (S.Ai c_fraction (hr.mono (by decide)) (S.Aa (S.Ai c_whole_value (hr.mono (by decide)) (S.Aa (S.pv 0) (S.Aa (S.pv 1) S.Ab))) (S.Aa (S.Ai c_whole_power (hr.mono (by decide)) (S.Aa (S.Bo Az (S.pv 1) S.Ad (fun _ _ => rfl)) (S.Aa (S.Ai c_degree (hr.mono (by decide)) (S.Aa (S.pv 0) S.Ab)) S.Ab))) S.Ab))))), ?_⟩
  contradiction
  refine ⟨a, c, p, t, rfl, ha, lp, hx.mem, hc, zt, ?_⟩
  try contradiction
  refine Ce hc (at1 _ _ _) (Cd hx (Same.refl _) ?_)
  refine Vo (m := p.length - 1) (n := 1) (by omega) (by decide) (by unfold Sz; decide) (by omega) (by omega) fun H1 s1 => ?_
  rw [Int.one_pow]
  try contradiction
  exact ⟨_, rfl, fun z H2 s2 hz => k z H2 (s1.trans s2) hz⟩
def Q6 (K : PySem.W.Frag) : Sp := fun vs H Q E => ∃ (a c : Addr) (u v : V), vs = [.ref a, .ref c] /\ SqT K H a [u, v] /\ Po K H u [1] 8 10 /\ Po K H v [-3, 1] 8 10 /\ SqT K H c [.int 3, .int 1] /\ ∀ H', Same H H' -> E (.ref (cA K "NoPart")) none H'
theorem X7 {f : Addr} {fd : FuncData} (F : Df K mg "q_value" Pz ["f", "r"] f fd)   (ce_over : Nq P w K mg base 3 "over" ["one", "other"] (Xe K)) (c_value : Cal P w K mg base 5 "value" ["one", "point"] (Xj K)) : Nq P w K mg base 6 "q_value" ["f", "r"] (Q6 K) := by
  refine F.calE (F.fn.okE Yy (fun vs H Q E h => ?_) (fun cdv A outer s H vs Q E hr h => ?_))
  . obtain ⟨a, c, _, _, rfl, _⟩ := h
    rfl
  obtain ⟨a, c, u, v, rfl, ha, hu, hv', hc, k⟩ := h
  have z3 : Sz 10 (3 : Int) := by unfold Sz; decide
  refine S.Bd ⟨_, (S.Ae (S.Al (S.Dk ce_over (hr.mono (by decide)) (S.Aa (S.Ai c_value (hr.mono (by decide)) (S.Aa (S.Bo Az (S.pv 0) S.Ad (fun _ _ => rfl)) (S.Aa (S.pv 1) S.Ab))) (S.Aa (S.Ai c_value (hr.mono (by decide)) (S.Aa (S.Bo Az (S.pv 0) S.Ad (fun _ _ => rfl)) (S.Aa (S.pv 1) S.Ab))) S.Ab))))), ?_⟩
  contradiction
  refine Ce ha (at0 _ _) ⟨u, c, [1], 3, rfl, hu, by simp, hc, z3, fun z1 H1 s1 h1 => ?_⟩
  try contradiction
  refine Ce (s1.tup ha) (at1 _ _ _) ⟨v, c, [-3, 1], 3, rfl, hv'.mono s1, by simp, s1.tup hc, z3, fun z2 H2 s2 h2 => ?_⟩
  try contradiction
  exact ⟨z1, z2, hv [1] 3 1, rfl, s2.tup h1, h2, by unfold Sz; decide, k H2 (s1.trans s2)⟩
theorem Adj {n : Nat} {a : Int} (h : Sz n a) (l : n <= 64) : Builtin.Int.intBits a <= 64 := Nat.le_trans (PySem.intBits_le_iff.mpr h) l
def Sx (_ : PySem.W.Frag) : Sp := fun vs H Q _ => ∃ c k : Int, vs = [.int c, .int k] /\ 0 <= k /\ k < 1000 /\ ∀ n : Int, Q (.int n) H
theorem Yh {f : Addr} {fd : FuncData} (F : Df K mg "_law_mixed" Qw ["_law_cell", "_law_k"] f fd)    : Cal P w K mg base 1 "_law_mixed" ["_law_cell", "_law_k"] (Sx K) := by
  refine F.cal (F.fn.ok N8 (fun vs H Q E h => ?_) (fun cdv A outer s H vs Q E hr h => ?_))
  . obtain ⟨c, k, rfl, _⟩ := h
    rfl
  obtain ⟨c, k, rfl, k0, k1, q⟩ := h
  refine S.Bd ⟨_, (S.Ac (S.Ah (i := 2) N8.nd rfl (Or.inl rfl) (S.Ak Ec (S.Ak Cr (S.Ak Cw (S.Ak Cw (S.Ak Ec (S.pv 0) S.Ad) (S.Ak Cr S.Ad (S.pv 1))) S.Ad) S.Ad) S.Ad))
      (S.Ac (S.Ah (i := 2) N8.nd rfl (Or.inl rfl) (S.Ak Ec (S.Ak Cr (S.pv 2) (S.Ak Cw (S.Ak Er (S.pv 2) S.Ad) S.Ad)) S.Ad))
      (S.Ae (S.Al (S.Ak Ec (S.Ak Cr (S.pv 2) (S.Ak Cw (S.Ak Er (S.pv 2) S.Ad) S.Ad)) S.Ad))))), ?_⟩
  contradiction
  have m1 : IntMulOk 7919 k := .of_left (Adj (by unfold Sz; decide : Sz 13 (7919 : Int)) (by decide))
  have m2 : IntMulOk (c % 2147483647 + 7919 * k + 1) 48271 := .of_right (Adj (by unfold Sz; decide : Sz 16 (48271 : Int)) (by decide))
  have d0 := Int.emod_nonneg ((c % 2147483647 + 7919 * k + 1) * 48271) (by decide : (2147483647 : Int) ≠ 0)
  have d1 := Int.emod_lt_of_pos ((c % 2147483647 + 7919 * k + 1) * 48271) (by decide : (0 : Int) < 2147483647)
  generalize (c % 2147483647 + 7919 * k + 1) * 48271 % 2147483647 = d at *
  have m3 : IntMulOk d (d / 1009 + 69621) := .of_left (Adj (by unfold Sz; omega : Sz 31 d) (by decide))
  have e0 := Int.emod_nonneg (d * (d / 1009 + 69621)) (by decide : (2147483647 : Int) ≠ 0)
  have e1 := Int.emod_lt_of_pos (d * (d / 1009 + 69621)) (by decide : (0 : Int) < 2147483647)
  generalize d * (d / 1009 + 69621) % 2147483647 = e at *
  have m4 : IntMulOk e (e / 997 + 16807) := .of_left (Adj (by unfold Sz; omega : Sz 31 e) (by decide))
  exact ⟨by decide, m1, m2, by decide, ⟨by decide, by decide⟩, m3, by decide, ⟨by decide, by decide⟩, m4, by decide, q _⟩
def Rt (K : PySem.W.Frag) : Sp := fun vs H Q _ => ∃ (c : Int) (m : Nat) (b : Int), vs = [.int c, .int (m : Nat), .int b] /\ m <= 8 /\ 0 < b /\ Sz 60 b /\ ∀ (z : Addr) (H' : Hp) (ns : List Int), Same H H' -> H' z = some (.lst (ns.map V.int)) -> ns.length = m -> (∀ x ∈ ns, 0 <= x /\ x < b) -> Q (.ref z) H'
structure DgI (H H' : Hp) (z : Addr) (b : Int) (i : Nat) (ns : List Int) : Prop where
  sm : Same H H'
  it : H' z = some (.lst (ns.map V.int))
  len : ns.length = i
  ok : ∀ x ∈ ns, 0 <= x /\ x < b
theorem DgI.snoc {H H' : Hp} {z : Addr} {b : Int} {i : Nat} {ns : List Int} (h : DgI H H' z b i ns) (n : H z = none) {x : Int} (hb : 0 < b) : DgI H (upd H' z (.lst (ns.map V.int ++ [.int (x % b)]))) z b (i + 1) (ns ++ [x % b]) := by
  refine ⟨h.sm.put n, by rw [Af, List.map_append]; rfl, by rw [List.length_append, h.len]; rfl, fun y hy => ?_⟩
  rcases List.mem_append.mp hy with hy | hy
  . exact h.ok y hy
  . have e : y = x % b := by simpa using hy
    rw [e]
    exact ⟨Int.emod_nonneg _ (Int.ne_of_gt hb), Int.emod_lt_of_pos _ hb⟩
theorem W7 {f : Addr} {fd : FuncData} (F : Df K mg "_law_digits" N6 ["_law_cell", "_law_many", "_law_base"] f fd) (z_range : mg "range" = none)  (c_q_mixed : Cal P w K mg base 1 "_law_mixed" ["_law_cell", "_law_k"] (Sx K)) : Cal P w K mg base 2 "_law_digits" ["_law_cell", "_law_many", "_law_base"] (Rt K) := by
  refine F.cal (F.fn.ok Hl (fun vs H Q E h => ?_) (fun cdv A outer s H vs Q E hr h => ?_))
  . obtain ⟨c, m, b, rfl, _⟩ := h
    rfl
  obtain ⟨c, m, b, rfl, m8, hb, zb, k⟩ := h
  refine S.Bd ⟨_, (S.Ac (S.Ah (i := 3) Hl.nd rfl (Or.inl rfl) (S.Ht S.Ab))
      (S.Ac (S.Ah (i := 4) Hl.nd rfl (Or.inl rfl) (S.Ak Er (S.pv 0) S.Ad))
      (S.Ac (S.Ey PassesOwn.never rfl (S.J4 rfl z_range (S.Aa (S.pv 1) S.Ab)) (S.Ax (i := 5) Hl.nd rfl (Or.inl rfl)) (S.Ae (S.Cy (S.O6 (S.Ms (S.Aj Lq (S.Ak Ec (S.pv 0) S.Ad) S.Ad (Aq _)) (S.Ms (S.Aj Lq (S.pv 4) S.Ad (Aq _)) (S.J1 (S.Aj Lq (S.pv 4) (S.Dr Ci S.Ad) (Aq _)))))) (S.Ae (S.Oc (S.Rv PySem.F.plainAttrs_list PySem.F.slot_list_append PySem.F.type_list_append M8 (S.pv 3) (S.Aa (S.Ak Ec (S.Ai c_q_mixed (hr.mono (by decide)) (S.Aa (S.pv 0) (S.Aa (S.pv 5) S.Ab))) (S.pv 2)) S.Ab)))) (S.Ac (S.Oc (S.Rv PySem.F.plainAttrs_list PySem.F.slot_list_append PySem.F.type_list_append M8 (S.pv 3) (S.Aa (S.Ak Ec (S.pv 4) (S.pv 2)) S.Ab)))
      (S.Ae (S.Ah (i := 4) Hl.nd rfl (Or.inl rfl) (S.Ak Er (S.pv 4) (S.pv 2))))))))
      (S.Ae (S.Al (S.pv 3)))))), ?_⟩
  contradiction
  refine ⟨by decide, fun z hz => ⟨⟨by decide, by decide⟩, by omega, by omega, ?_⟩⟩
  rw [Int.toNat_natCast]
  refine Ai1 m (fun i => .int (0 + (i : Nat))) (fun i σ H' => ∃ (r : Int) (ns : List Int) (o : Option V), σ = [some (.int c), some (.int (m : Nat)), some (.int b), some (.ref z), some (.int r), o] /\ DgI H H' z b i ns) ⟨_, [], _, rfl, ⟨Same.upd hz _, Af, rfl, by simp⟩⟩ ?_ ?_ ?_
  . rintro i σ H' _
    exact Zf
  . rintro i σ H1 hi ⟨r, ns, o, rfl, d⟩
    have ty : tyV K "list" (.ref z) H1 := .inl ⟨rfl, _, .of d.it⟩
    have lz : (ns.map V.int).length < sizeLine := by rw [List.length_map, d.len]; exact Nat.lt_of_lt_of_le (show i < 9 by omega) (by decide)
    have vb : ∀ x : Int, Agp x b := fun x => ⟨hb, zb.log2 (by omega) (by decide)⟩
    have mix : ∀ n : Int, DgI H (upd H1 z (.lst (ns.map V.int ++ [.int (n % b)]))) z b (i + 1) (ns ++ [n % b]) := fun n => d.snoc hz hb
    contradiction
    refine ⟨by decide, ?_⟩
    split
    . refine ⟨ty, c, _, rfl, by omega, by omega, fun n => ?_⟩
      try contradiction
      exact ⟨hb, z, _, _, rfl, rfl, d.it, lz, _, _, _, rfl, mix n⟩
    split
    . refine ⟨ty, c, _, rfl, by omega, by omega, fun n => ?_⟩
      try contradiction
      exact ⟨hb, z, _, _, rfl, rfl, d.it, lz, _, _, _, rfl, mix n⟩
    split
    . refine ⟨ty, c, _, rfl, by omega, by omega, fun n => ?_⟩
      try contradiction
      exact ⟨hb, z, _, _, rfl, rfl, d.it, lz, _, _, _, rfl, mix n⟩
    . refine ⟨ty, hb, z, _, _, rfl, rfl, d.it, lz, ?_⟩
      try contradiction
      exact ⟨vb r, _, _, _, rfl, mix r⟩
  . rintro σ H1 ⟨r, ns, o, rfl, d⟩
    contradiction
    exact k z H1 ns d.sm d.it d.len d.ok
def Qt (K : PySem.W.Frag) : Sp := fun vs H Q _ => ∃ (c n : Int), vs = [.int c, .int n] /\ 0 <= n /\ n < 2 ^ 20 /\ ∀ z H' p, Same H H' -> Po K H' z p 4 21 -> Q z H'
theorem Aal {f : Addr} {fd : FuncData} (F : Df K mg "_law_poly" Ph ["_law_cell", "_law_size"] f fd)   (c_poly : Cal P w K mg base 1 "poly" ["weights"] (Ja K)) (c_q_digits : Cal P w K mg base 2 "_law_digits" ["_law_cell", "_law_many", "_law_base"] (Rt K)) : Cal P w K mg base 3 "_law_poly" ["_law_cell", "_law_size"] (Qt K) := by
  refine F.cal (F.fn.ok Zj (fun vs H Q E h => ?_) (fun cdv A outer s H vs Q E hr h => ?_))
  . obtain ⟨c, n, rfl, _⟩ := h
    rfl
  obtain ⟨c, n, rfl, n0, n1, k⟩ := h
  refine S.Bd ⟨_, (S.Ae (S.Al (S.Ai c_poly (hr.mono (by decide)) (S.Aa (S.Jl (ts := ["_law_draw"]) (fs := [(1, "_law_size")]) rfl (Cq.of (sc := Ag Ph) (N := ["_law_cell", "_law_size"]) rfl rfl (by decide +kernel)) (S.Oo (S.Ai c_q_digits (hr.mono (by decide)) (S.Aa (S.Ak Er (S.pv 0) S.Ad) (S.Aa (S.Ak Cw S.Ad (S.Ak Ec (S.pv 0) S.Ad)) (S.Aa (S.Ak Cw (S.Ak Cr S.Ad (S.pv 1)) S.Ad) S.Ab))))) (fun _ _ _ => (S.Ax (i := 0) (show List.Nodup (["_law_draw", "_law_size"] : List Str) by decide +kernel) rfl (Or.inl rfl))) (fun _ _ _ => S.Iu) (fun _ _ _ => (S.Ak Ej (S.pv 0) (S.pv 1)))) S.Ab)))), ?_⟩
  contradiction
  have e4 : ∃ m : Nat, 1 + c % 4 = (m : Nat) /\ m <= 4 := ⟨(1 + c % 4).toNat, by omega, by omega⟩
  obtain ⟨m, em, m4⟩ := e4
  refine ⟨⟨by decide, by decide⟩, by decide, (by unfold Sz; decide : Sz 2 (2 : Int)).mulOk (show Sz 21 n by unfold Sz; omega) (by decide), ?_⟩
  rw [em]
  refine ⟨c / 4, m, 2 * n + 1, rfl, by omega, by omega, by unfold Sz; omega, fun z H1 ns s1 hz hl hx => ?_⟩
  try contradiction
  refine ⟨⟨_, .of hz⟩, fun p7 hp7 => Ju (es := ns) (inj := V.int) (fun w => .int (w - n)) (by rw [hl]; exact Nat.le_trans m4 (by decide)) hp7 (Uh (.of hz)) ?_ ?_⟩
  . intro w H7 R hw s7 hR7
    contradiction
    exact hR7 _ (Same.refl _)
  intro H7 s7 h7
  have e7 : ns.map (fun w => V.int (w - n)) = (ns.map (· - n)).map V.int := by rw [List.map_map]; rfl
  rw [e7] at h7
  refine ⟨p7, ns.map (· - n), rfl, .inl (.of h7), by rw [List.length_map]; omega, fun z8 H8 s8 h8 => k _ _ _ ((s1.trans s7).trans s8) ⟨⟨z8, rfl, h8⟩, Av _, Nat.le_trans (Hu _) (by rw [List.length_map]; omega), fun i => ?_⟩⟩
  rw [Am]
  refine Wm (by decide) (fun x hx' => ?_) i
  obtain ⟨y, hy, rfl⟩ := List.mem_map.mp hx'
  have := hx y hy
  unfold Sz
  omega
def Jt (K : PySem.W.Frag) : Sp := fun vs H Q _ => ∃ (c n : Int), vs = [.int c, .int n] /\ 0 <= n /\ n < 2 ^ 20 /\ ∀ z H' p, Same H H' -> Po K H' z p 4 21 -> p ≠ [] -> Q z H'
theorem Q5 {f : Addr} {fd : FuncData} (F : Df K mg "_law_not_nought" Ib ["_law_cell", "_law_size"] f fd)   (c_q_poly : Cal P w K mg base 3 "_law_poly" ["_law_cell", "_law_size"] (Qt K)) : Cal P w K mg base 4 "_law_not_nought" ["_law_cell", "_law_size"] (Jt K) := by
  refine F.cal (F.fn.ok Jv (fun vs H Q E h => ?_) (fun cdv A outer s H vs Q E hr h => ?_))
  . obtain ⟨c, n, rfl, _⟩ := h
    rfl
  obtain ⟨c, n, rfl, n0, n1, k⟩ := h
  refine S.Bd ⟨_, (S.Ac (S.Ah (i := 2) Jv.nd rfl (Or.inl rfl) (S.Ai c_q_poly (hr.mono (by decide)) (S.Aa (S.pv 0) (S.Aa (S.pv 1) S.Ab))))
      (S.Ac (S.Cy (S.Aj (Im hr.units) (S.pv 2) (S.Ar S.Ab) (Aq _)) (S.Ae (S.Al (S.Ar (S.Aa (S.Ak Cw S.Ad (S.Ak Ec (S.pv 0) S.Ad)) S.Ab)))) S.Bb)
      (S.Ae (S.Al (S.pv 2))))), ?_⟩
  contradiction
  refine ⟨c, n, rfl, n0, n1, fun z H1 p s1 i1 => ?_⟩
  obtain ⟨⟨a, rfl, ha⟩, _⟩ := id i1
  try contradiction
  refine ⟨by decide, fun e0 he0 => ?_⟩
  have se := Same.upd he0 (.tup [])
  refine Cv (ms := []) (se.tup ha) (.of Af) ?_
  by_cases h0 : p = []
  . rw [decide_eq_true h0]
    try contradiction
    refine ⟨by decide, fun q hq => k _ _ [1 + c % 7] ((s1.trans se).trans (Same.upd hq _)) ⟨⟨q, rfl, .of Af⟩, .inr ⟨by simp, by simp; omega⟩, by show 1 <= 4; decide, fun i => Wm (by decide) (fun x hx => ?_) i⟩ (by simp)⟩
    have e : x = 1 + c % 7 := by simpa using hx
    rw [e]
    unfold Sz
    omega
  . rw [decide_eq_false h0]
    try contradiction
    exact k _ _ p (s1.trans se) (i1.mono se) h0
theorem poN {H : Hp} {z : Addr} {l n : Nat} (h : H z = some (.tup [])) (hn : 1 <= n) : Po K H (.ref z) [] l n := ⟨⟨z, rfl, .of h⟩, .inl rfl, Nat.zero_le _, fun i => by rw [Ay]; exact Sz0 hn⟩
theorem po1 {H : Hp} {z : Addr} {l n : Nat} {a : Int} (h : H z = some (.tup [V.int a])) (a0 : a ≠ 0) (hl : 1 <= l) (hn : 0 < n) (za : Sz n a) : Po K H (.ref z) [a] l n := ⟨⟨z, rfl, .of h⟩, .inr ⟨by simp, by simpa using a0⟩, hl, Wm hn fun x hx => by
  have e : x = a := by simpa using hx
  rw [e]
  exact za⟩
theorem po2 {H : Hp} {z : Addr} {l n : Nat} {a b : Int} (h : H z = some (.tup [V.int a, V.int b])) (b0 : b ≠ 0) (hl : 2 <= l) (hn : 0 < n) (za : Sz n a) (zb : Sz n b) : Po K H (.ref z) [a, b] l n := ⟨⟨z, rfl, .of h⟩, .inr ⟨by simp, by simpa using b0⟩, hl, Wm hn fun x hx => by
  have e : x = a \/ x = b := by simpa using hx
  rcases e with rfl | rfl
  . exact za
  . exact zb⟩
theorem Akk : Few 4 21 := ⟨by decide, by decide, by decide, by decide⟩
def O5 (K : PySem.W.Frag) : Sp := fun vs H Q _ => ∃ (x : V) (p : List Int) (d : Int), vs = [x, .int d] /\ Po K H x p 4 21 /\ ∀ H', Same H H' -> Q (.bl true) H'
theorem U3 {f : Addr} {fd : FuncData} (F : Df K mg "_law_refused" Mp ["_law_p", "_law_deed"] f fd) (z_isinstance : mg "isinstance" = none) (xk_NoPart : V3 K (cA K "NoPart")) (xm_NoPart : mg "NoPart" = some (.ref (cA K "NoPart"))) (xi_NoPart : Zm K (cA K "NoPart")) (xm_CourtError : mg "CourtError" = some (.ref (cA K "CourtError"))) (ki_NoPart_CourtError : PySem.W.kitOne K (.ref (cA K "NoPart")) (.ref (cA K "CourtError")) = some true) (xm_NoFree : mg "NoFree" = some (.ref (cA K "NoFree"))) (ki_NoPart_NoFree : PySem.W.kitOne K (.ref (cA K "NoPart")) (.ref (cA K "NoFree")) = some false) (xm_NoInverse : mg "NoInverse" = some (.ref (cA K "NoInverse"))) (ki_NoPart_NoInverse : PySem.W.kitOne K (.ref (cA K "NoPart")) (.ref (cA K "NoInverse")) = some false) (ce_q_of : Nq P w K mg base 10 "q_of" ["p", "q"] (Np K)) (ce_q_over : Nq P w K mg base 11 "q_over" ["f", "g"] (Sv K)) (c_q_of : Cal P w K mg base 10 "q_of" ["p", "q"] (Wb K)) (ce_q_paper : Nq P w K mg base 11 "q_paper" ["p", "q"] (Pq K)) (ce_q_value : Nq P w K mg base 6 "q_value" ["f", "r"] (Q6 K)) : Cal P w K mg base 12 "_law_refused" ["_law_p", "_law_deed"] (O5 K) := by
  refine F.cal (F.fn.ok Hr (fun vs H Q E h => ?_) (fun cdv A outer s H vs Q E hr h => ?_))
  . obtain ⟨x, p, d, rfl, _⟩ := h
    rfl
  obtain ⟨x, p, d, rfl, hx, k⟩ := h
  refine S.Bd ⟨_, (S.Ac (S.Ah (i := 2) Hr.nd rfl (Or.inl rfl) S.Li)
      (S.Ac (S.Hx (i := 3) (S.Zq (S.Aj Lq (S.pv 1) S.Ad (Aq _)) (S.Ig ce_q_of (hr.mono (by decide)) (S.Aa (S.pv 0) (S.Aa (S.Ar S.Ab) S.Ab)) S.Hj) (S.Zq (S.Aj Lq (S.pv 1) S.Ad (Aq _)) (S.Ig ce_q_over (hr.mono (by decide)) (S.Aa (S.Ai c_q_of (hr.mono (by decide)) (S.Aa (S.pv 0) (S.Aa (S.Ar (S.Aa S.Ad (S.Aa S.Ad S.Ab))) S.Ab))) (S.Aa (S.Ar (S.Aa (S.Ar S.Ab) (S.Aa (S.Ar (S.Aa S.Ad S.Ab)) S.Ab))) S.Ab)) S.Hj) (S.Zq (S.Aj Lq (S.pv 1) S.Ad (Aq _)) (S.Ig ce_q_paper (hr.mono (by decide)) (S.Aa (S.pv 0) (S.Aa (S.Ar S.Ab) S.Ab)) S.Hj) (S.Ig ce_q_value (hr.mono (by decide)) (S.Aa (S.Ar (S.Aa (S.Ar (S.Aa S.Ad S.Ab)) (S.Aa (S.Ar (S.Aa (S.Dr Ci S.Ad) (S.Aa S.Ad S.Ab))) S.Ab))) (S.Aa (S.Ar (S.Aa S.Ad (S.Aa S.Ad S.Ab))) S.Ab)) S.Hj)))) xk_NoPart xm_NoPart (fun x oe hc => (S.Ae (S.Ah (i := 2) Hr.nd rfl (Or.inl rfl) (S.Qo (S.Dd (Rp (List.mem_cons_self ..) hc xi_NoPart) rfl z_isinstance PyProof.Rows.boot_isinstance (S.Aa (S.pv 3) (S.Aa (S.Jy (v := .ref (cA K "CourtError")) rfl xm_CourtError rfl) S.Ab))) (S.Qo (S.Vj (S.Dd (Rp (List.mem_cons_self ..) hc xi_NoPart) rfl z_isinstance PyProof.Rows.boot_isinstance (S.Aa (S.pv 3) (S.Aa (S.Jy (v := .ref (cA K "NoFree")) rfl xm_NoFree rfl) S.Ab)))) (S.Ss (S.Vj (S.Dd (Rp (List.mem_cons_self ..) hc xi_NoPart) rfl z_isinstance PyProof.Rows.boot_isinstance (S.Aa (S.pv 3) (S.Aa (S.Jy (v := .ref (cA K "NoInverse")) rfl xm_NoInverse rfl) S.Ab)))))))))) Hr.nd rfl)
      (S.Ae (S.Al (S.pv 2))))), ?_⟩
  contradiction
  split
  . refine ⟨by decide, fun q hq => ?_⟩
    have sq := Same.upd hq (.tup [])
    refine ⟨x, _, p, [], 8, 107, rfl, Ih (hx.mono sq) (by decide) (by decide), poN Af (by decide), Ajh, by decide, by decide, fun _ H' s' => ?_, fun z => absurd rfl z⟩
    have ss := sq.trans s'
    refine ⟨rfl, fun x oe hc => ⟨true, .inl ⟨_, rfl, ki_NoPart_CourtError⟩, ?_⟩⟩
    rw [if_pos rfl]
    refine ⟨false, .inl ⟨_, rfl, ki_NoPart_NoFree⟩, ?_⟩
    rw [if_pos rfl]
    exact ⟨false, .inl ⟨_, rfl, ki_NoPart_NoInverse⟩, k _ ss⟩
  split
  . (intro q1 hq1; generalize eq1 : upd _ q1 _ = Gq1; obtain ⟨sq1, gq1⟩ := nw hq1 eq1; clear eq1 hq1)
    refine ⟨x, _, p, [2, 1], 4, 21, rfl, hx.mono sq1, po2 gq1 (by decide) (by decide) (by decide) (by unfold Sz; decide) (by unfold Sz; decide), Akk, by decide, by decide, by simp, fun z H' vT vB T B s' hz hT hB qf => ?_⟩
    refine ⟨by decide, ?_⟩
    (intro q2 hq2; generalize eq2 : upd _ q2 _ = Gq2; obtain ⟨sq2, gq2⟩ := nw hq2 eq2; clear eq2 hq2)
    (intro q3 hq3; generalize eq3 : upd _ q3 _ = Gq3; obtain ⟨sq3, gq3⟩ := nw hq3 eq3; clear eq3 hq3)
    (intro q4 hq4; generalize eq4 : upd _ q4 _ = Gq4; obtain ⟨sq4, gq4⟩ := nw hq4 eq4; clear eq4 hq4)
    have s24 := (sq2.trans sq3).trans sq4
    refine ⟨z, q4, vT, vB, .ref q2, .ref q3, T, B, [1], rfl, s24.tup hz, .of gq4, hT.mono s24, hB.mono s24, poN ((sq3.trans sq4) _ _ gq2) (by decide), po1 (sq4 _ _ gq3) (by decide) (by decide) (by decide) (by unfold Sz; decide), fun H5 s5 => ?_⟩
    have ss := ((sq1.trans s').trans s24).trans s5
    refine ⟨rfl, fun x oe hc => ⟨true, .inl ⟨_, rfl, ki_NoPart_CourtError⟩, ?_⟩⟩
    rw [if_pos rfl]
    refine ⟨false, .inl ⟨_, rfl, ki_NoPart_NoFree⟩, ?_⟩
    rw [if_pos rfl]
    exact ⟨false, .inl ⟨_, rfl, ki_NoPart_NoInverse⟩, k _ ss⟩
  split
  . refine ⟨by decide, fun q hq => ?_⟩
    have sq := Same.upd hq (.tup [])
    refine ⟨x, _, p, 8, 107, rfl, Ih (hx.mono sq) (by decide) (by decide), poN Af (by decide), Ajh, by decide, by decide, fun H' s' => ?_⟩
    have ss := sq.trans s'
    refine ⟨rfl, fun x oe hc => ⟨true, .inl ⟨_, rfl, ki_NoPart_CourtError⟩, ?_⟩⟩
    rw [if_pos rfl]
    refine ⟨false, .inl ⟨_, rfl, ki_NoPart_NoFree⟩, ?_⟩
    rw [if_pos rfl]
    exact ⟨false, .inl ⟨_, rfl, ki_NoPart_NoInverse⟩, k _ ss⟩
  . (intro q1 hq1; generalize eq1 : upd _ q1 _ = Gq1; obtain ⟨sq1, gq1⟩ := nw hq1 eq1; clear eq1 hq1)
    (intro q2 hq2; generalize eq2 : upd _ q2 _ = Gq2; obtain ⟨sq2, gq2⟩ := nw hq2 eq2; clear eq2 hq2)
    (intro q3 hq3; generalize eq3 : upd _ q3 _ = Gq3; obtain ⟨sq3, gq3⟩ := nw hq3 eq3; clear eq3 hq3)
    (intro q4 hq4; generalize eq4 : upd _ q4 _ = Gq4; obtain ⟨sq4, gq4⟩ := nw hq4 eq4; clear eq4 hq4)
    have z10 : ∀ {a : Int}, a.natAbs < 1024 -> Sz 10 a := fun h => h
    refine ⟨q3, q4, .ref q1, .ref q2, rfl, .of (sq4 _ _ gq3), po1 (((sq2.trans sq3).trans sq4) _ _ gq1) (by decide) (by decide) (by decide) (z10 (by decide)), po2 ((sq3.trans sq4) _ _ gq2) (by decide) (by decide) (by decide) (z10 (by decide)) (z10 (by decide)), .of gq4, fun H5 s5 => ?_⟩
    have ss := (((sq1.trans sq2).trans sq3).trans sq4).trans s5
    refine ⟨rfl, fun x oe hc => ⟨true, .inl ⟨_, rfl, ki_NoPart_CourtError⟩, ?_⟩⟩
    rw [if_pos rfl]
    refine ⟨false, .inl ⟨_, rfl, ki_NoPart_NoFree⟩, ?_⟩
    rw [if_pos rfl]
    exact ⟨false, .inl ⟨_, rfl, ki_NoPart_NoInverse⟩, k _ ss⟩
theorem Kd {H H1 : Hp} {Q : VK} {E : XK} {x : V} {c : Int} {p : List Int} {l n m : Nat} (hx : Po K H1 x p l n) (s1 : Same H1 H) (zc : Sz m c) (b1 : l <= 500) (b2 : n + m <= 100000000) (h : ∀ z H', Same H H' -> Po K H' z (ng p c) l (n + m) -> Q z H') : Ew K [x, .int c] H Q E := ⟨x, c, p, l, n, m, rfl, hx.mono s1, zc, b1, b2, h⟩
theorem Qv (T B : List Int) : SeqAt.shaped (.tuple [.tuple (T.map PyData.int), .tuple (B.map PyData.int)]) = true := by
  simp [SeqAt.shaped, PyData.canLay0, PyData.canLayAll0, PyData.depth, PyData.depthAll, PySem.W.ke_canLayAll0, PySem.W.ke_depthAll]
theorem Tz {H : Hp} {g : Bool -> Bool} {Q : VK} {a b u v u' v' : Addr} {T B T' B' : List Int} (ha : SqT K H a [.ref u, .ref v]) (hu : SqT K H u (T.map V.int)) (hv : SqT K H v (B.map V.int)) (hb : SqT K H b [.ref u', .ref v']) (hu' : SqT K H u' (T'.map V.int)) (hv' : SqT K H v' (B'.map V.int)) (h : Q (.bl (g (decide (T = T') && decide (B = B')))) H) : Aiz K g (.ref a) (.ref b) H Q :=
  ⟨_, _, .tup ha (.cons (.ints hu) (.cons (.ints hv) .nil)), .tup hb (.cons (.ints hu') (.cons (.ints hv') .nil)), Qv T B, Qv T' B', by
    simp only [PyData.eqv, PyData.eqvAll, M9, Bool.and_true]
    exact h⟩
theorem Xl {p : List Int} {c : Int} (tp : Tr p) (hc : c ≠ 0) : ng p c = p.map (c * ·) := (Av _).ext (U5 tp hc) fun i => by rw [<- ng, O9, Bw, Int.mul_comm]
theorem QF.hpw {p q T B : List Int} (h : QF p q T B) : hpw T B = true := by
  unfold Z.hpw
  rw [decide_eq_true h.nB, decide_eq_true h.pos, decide_eq_true h.gl1]
  rfl
theorem Afn {p q T B : List Int} (h : QF p q T B) {c : Int} (hc : 2 <= c) : hpw (ng T c) (ng B c) = false := by
  unfold Z.hpw
  rw [Xl h.tT (by omega), Xl h.tB (by omega), <- List.map_append, Aa2, h.gl1]
  rw [decide_eq_false (show ¬ c.natAbs * 1 = 1 by omega)]
  simp
theorem Af3 {p q T B : List Int} (h : QF p q T B) : hpw (ng T (-1)) (ng B (-1)) = false := by
  unfold Z.hpw
  have : ¬ 0 < co (ng B (-1)) ((ng B (-1)).length - 1) := by
    rw [Xl h.tB (by decide), List.length_map, Bw]
    have := h.pos
    omega
  rw [decide_eq_false this]
  simp
theorem Afd (T : List Int) : hpw T [] = false := by
  unfold hpw
  rw [decide_eq_false (fun z : ([] : List Int) ≠ [] => z rfl)]
  rfl
open Classical in
theorem Abp {T B : List Int} (tB : Tr B) (nB : B ≠ []) : Ach (tm T [1, 1]) (tm B [1, 1]) = false := by
  unfold Ach
  refine decide_eq_false ?_
  rintro ⟨g, gc, l⟩
  have t11 : Tr ([1, 1] : List Int) := .inr ⟨by simp, by decide⟩
  have d := gc.all [1, 1] (Dv.prod T [1, 1]) (Dv.prod B [1, 1])
  have ng : g ≠ [] := fun z => by rw [z] at l; simp at l
  have := (d.len t11 gc.tr ng).2
  rw [l] at this
  simp at this
structure Aha (K : PySem.W.Frag) (H : Hp) (O : Addr) (n : Nat) (ws : List V) : Prop where
  it : H O = some (.lst ws)
  no : ∀ v ∈ ws, Tq K H v false
  len : ws.length = n
theorem Aha.mono {H H' : Hp} {O : Addr} {n : Nat} {vs : List V} (h : Aha K H O n vs) (s : Same H H') : Aha K H' O n vs := ⟨s _ _ h.it, fun v hv => (h.no v hv).mono s, h.len⟩
theorem Ajw : Few 8 120 := ⟨by decide, by decide, by decide, by decide⟩
structure FdQ (K : PySem.W.Frag) (H : Hp) (f u v : Addr) (p q T B : List Int) : Prop where
  it : SqT K H f [.ref u, .ref v]
  iu : Po K H (.ref u) T 4 102
  iv : Po K H (.ref v) B 4 102
  qf : QF p q T B
theorem FdQ.mono {H H' : Hp} {f u v : Addr} {p q T B : List Int} (h : FdQ K H f u v p q T B) (s : Same H H') : FdQ K H' f u v p q T B := ⟨s.tup h.it, h.iu.mono s, h.iv.mono s, h.qf⟩
theorem Po.sq {H : Hp} {a : Addr} {p : List Int} {l n : Nat} (h : Po K H (.ref a) p l n) : SqT K H a (p.map V.int) := by
  obtain ⟨⟨b, e, hb⟩, _⟩ := h
  cases e
  exact hb
theorem Po.th {H : Hp} {v : V} {p : List Int} {l n : Nat} (h : Po K H v p l n) (hl : l <= 100) : Th K H v true := by
  obtain ⟨⟨b, rfl, hb⟩, tp, lp, _⟩ := h
  rw [<- decide_eq_true (Ql tp)]
  exact .nums hb (by omega)
theorem Xh {H : Hp} {a : Addr} {x y : V} {T B : List Int} {l n l' n' : Nat} (h : H a = some (.tup [x, y])) (hx : Po K H x T l n) (hy : Po K H y B l' n') (b1 : l <= 100) (b2 : l' <= 100) (hw : hpw T B = false) : Tq K H (.ref a) false := by
  obtain ⟨⟨c, rfl, hc⟩, _, lT, _⟩ := hx
  obtain ⟨⟨d, rfl, hd⟩, _, lB, _⟩ := hy
  exact .noW (.of h) hc hd (by omega) (by omega) hw
theorem Ac0 {H : Hp} {a : Addr} {x y : V} {p q T B : List Int} (qf : QF p q T B) (h : H a = some (.tup [x, y])) (hx : Po K H x (tm T [1, 1]) 6 120) (hy : Po K H y (tm B [1, 1]) 6 120) : Tq K H (.ref a) false := by
  cases hw : hpw (tm T [1, 1]) (tm B [1, 1]) with
  | false => exact Xh h hx hy (by decide) (by decide) hw
  | true =>
    rw [<- Abp (T := T) qf.tB qf.nB]
    exact .yes (.of h) (Ih hx (by decide) (Nat.le_refl _)) (Ih hy (by decide) (Nat.le_refl _)) Ajw hw
theorem Afa {H : Hp} {a : Addr} {B : List Int} (h : SqT K H a (B.map V.int ++ [.bl true])) (hl : B.length <= 100) : Th K H (.ref a) false := by
  refine .bad (es := B.map (fun i => (V.int i, true)) ++ [(.bl true, false)]) (by rw [List.map_append, List.map_map]; exact h) (by rw [List.length_append, List.length_map]; simp; omega) (fun e he => ?_) (by simp)
  rcases List.mem_append.mp he with he | he
  . obtain ⟨i, _, rfl⟩ := List.mem_map.mp he
    exact .int i
  . have : e = (.bl true, false) := by simpa using he
    rw [this]
    exact .bl true
theorem Ads (B : List Int) : T8 (B.map V.int) none (some (-1)) = B.dropLast.map V.int := by
  unfold T8
  rw [HT.Pa, List.drop_zero]
  have e : ∀ n d : Nat, HT.sIx n d (some (-1)) = n - 1 := fun n d => by
    show (if (-1 : Int) < 0 then ((-1 : Int) + (n : Int)).toNat else min (-1 : Int).toNat n) = n - 1
    rw [if_pos (by decide)]
    omega
  rw [e, List.length_map, Nat.sub_zero, List.dropLast_eq_take, List.map_take]
def Pu (K : PySem.W.Frag) : Sp := fun vs H Q _ => ∃ (f u v : Addr) (c : Int) (p q T B : List Int), vs = [.ref f, .int c] /\ FdQ K H f u v p q T B /\ ∀ z H' ws, Same H H' -> Aha K H' z 12 ws -> Q (.ref z) H'
theorem W2 {f : Addr} {fd : FuncData} (F : Df K mg "_law_others" Ot ["_law_found", "_law_cell"] f fd) (z_list : mg "list" = none)  (c_scaled : Cal P w K mg base 1 "scaled" ["one", "factor"] (Ew K)) (c_p_times : Cal P w K mg base 1 "p_times" ["one", "other"] (Ds K)) : Cal P w K mg base 2 "_law_others" ["_law_found", "_law_cell"] (Pu K) := by
  refine F.cal (F.fn.ok Ep (fun vs H Q E h => ?_) (fun cdv A outer s H vs Q E hr h => ?_))
  . obtain ⟨f, u, v, c, _, _, _, _, rfl, _⟩ := h
    rfl
  obtain ⟨f, u, v, c, p, q, T, B, rfl, d, k⟩ := h
  refine S.Bd ⟨_, (S.Ac (S.Ah (i := 2) Ep.nd rfl (Or.inl rfl) (S.Ak Cw S.Ad (S.Ak Ec (S.pv 1) (S.Ak Aaa S.Ad S.Ad))))
      (S.Ac (S.Es (S.pv 0) (S.Fz rfl (S.Bl (S.Ax (i := 4) Ep.nd rfl (Or.inl rfl)) (S.Bl (S.Ax (i := 5) Ep.nd rfl (Or.inl rfl)) S.Ek))))
      (S.Ac (S.Ah (i := 3) Ep.nd rfl (Or.inl rfl) (S.Ht (S.Aa (S.Ar (S.Aa (S.Ai c_scaled (hr.mono (by decide)) (S.Aa (S.pv 4) (S.Aa (S.pv 2) S.Ab))) (S.Aa (S.Ai c_scaled (hr.mono (by decide)) (S.Aa (S.pv 5) (S.Aa (S.pv 2) S.Ab))) S.Ab))) (S.Aa (S.Ar (S.Aa (S.Ai c_scaled (hr.mono (by decide)) (S.Aa (S.pv 4) (S.Aa (S.Dr Ci S.Ad) S.Ab))) (S.Aa (S.Ai c_scaled (hr.mono (by decide)) (S.Aa (S.pv 5) (S.Aa (S.Dr Ci S.Ad) S.Ab))) S.Ab))) (S.Aa (S.Ar (S.Aa (S.pv 4) (S.Aa (S.Ar S.Ab) S.Ab))) (S.Aa (S.Ht (S.Aa (S.pv 4) (S.Aa (S.pv 5) S.Ab))) S.Ab))))))
      (S.Ac (S.Ah (i := 3) Ep.nd rfl (Or.inl rfl) (S.Ak Aee (S.pv 3) (S.Ht (S.Aa (S.Ar (S.Aa (S.Ai c_p_times (hr.mono (by decide)) (S.Aa (S.pv 4) (S.Aa (S.Ar (S.Aa S.Ad (S.Aa S.Ad S.Ab))) S.Ab))) (S.Aa (S.Ai c_p_times (hr.mono (by decide)) (S.Aa (S.pv 5) (S.Aa (S.Ar (S.Aa S.Ad (S.Aa S.Ad S.Ab))) S.Ab))) S.Ab))) (S.Aa (S.Ar (S.Aa (S.pv 4) (S.Aa (S.pv 5) (S.Aa (S.Ar (S.Aa S.Ad S.Ab)) S.Ab)))) (S.Aa (S.Ar (S.Aa (S.Ak Rn (S.pv 4) (S.Ar (S.Aa S.Ad S.Ab))) (S.Aa (S.pv 5) S.Ab))) S.Ab))))))
      (S.Ae (S.Al (S.Ak Aee (S.pv 3) (S.Ht (S.Aa (S.pv 4) (S.Aa S.Sy (S.Aa (S.Ar (S.Aa (S.Ft Eu rfl z_list PyProof.Rows.boot_list (S.Aa (S.pv 4) S.Ab)) (S.Aa (S.pv 5) S.Ab))) (S.Aa (S.Ar (S.Aa (S.pv 4) (S.Aa S.Ad S.Ab))) (S.Aa (S.Ar (S.Aa (S.pv 4) (S.Aa (S.Ak Rn (S.Kf Td (S.pv 5) S.N5 (S.Og (S.Dr Ci S.Ad))) (S.Ar (S.Aa S.Li S.Ab))) S.Ab))) S.Ab))))))))))))), ?_⟩
  refine Bc (fun σ' H' => H' = H /\ ∃ far : Int, 2 <= far /\ Sz 41 far /\ σ' = [some (.ref f), some (.int c), some (.int far), none, none, none]) (fun N hN => ?_) ?_
  . contradiction
    have e12 : (10 : Int) ^ Int.toNat 12 = 1000000000000 := by decide
    rw [e12]
    exact ⟨⟨by decide, by decide, by decide⟩, by decide, hN _ _ ⟨rfl, _, by omega, by unfold Sz; omega, rfl⟩⟩
  rintro σ H0 ⟨rfl, far, f2, zf, rfl⟩
  refine Bc (fun σ' H' => H' = H0 /\ σ' = [some (.ref f), some (.int c), some (.int far), none, some (.ref u), some (.ref v)]) (fun N hN => ?_) ?_
  . contradiction
    exact Ir d.it (hN _ _ ⟨rfl, rfl⟩)
  rintro σ H1 ⟨rfl, rfl⟩
  have zm : Sz 1 (-1 : Int) := by unfold Sz; decide
  refine Bc (fun σ' H' => Same H1 H' /\ ∃ (O : Addr) (ws : List V), σ' = [some (.ref f), some (.int c), some (.int far), some (.ref O), some (.ref u), some (.ref v)] /\ Aha K H' O 4 ws) (fun N hN => ?_) ?_
  . contradiction
    refine Kd d.iu (Same.refl _) zf (by decide) (by decide) fun z1 G1 s1 i1 => ?_
    try contradiction
    refine Kd d.iv s1 zf (by decide) (by decide) fun z2 G2 s2 i2 => ?_
    try contradiction
    (intro q1 hq1; generalize eq1 : upd _ q1 _ = Gq1; obtain ⟨sq1, gq1⟩ := nw hq1 eq1; clear eq1 hq1)
    have t1 := (s1.trans s2).trans sq1
    refine Kd d.iu t1 zm (by decide) (by decide) fun z3 G3 s3 i3 => ?_
    try contradiction
    refine Kd d.iv (t1.trans s3) zm (by decide) (by decide) fun z4 G4 s4 i4 => ?_
    try contradiction
    (intro q2 hq2; generalize eq2 : upd _ q2 _ = Gq2; obtain ⟨sq2, gq2⟩ := nw hq2 eq2; clear eq2 hq2)
    refine ⟨by decide, ?_⟩
    (intro q3 hq3; generalize eq3 : upd _ q3 _ = Gq3; obtain ⟨sq3, gq3⟩ := nw hq3 eq3; clear eq3 hq3)
    (intro q4 hq4; generalize eq4 : upd _ q4 _ = Gq4; obtain ⟨sq4, gq4⟩ := nw hq4 eq4; clear eq4 hq4)
    (intro q5 hq5; generalize eq5 : upd _ q5 _ = Gq5; obtain ⟨sq5, gq5⟩ := nw hq5 eq5; clear eq5 hq5)
    refine ⟨by decide, ?_⟩
    (intro q6 hq6; generalize eq6 : upd _ q6 _ = Gq6; obtain ⟨sq6, gq6⟩ := nw hq6 eq6; clear eq6 hq6)
    have r5 := sq6
    have r4 := sq5.trans r5
    have r3 := sq4.trans r4
    have r2 := sq3.trans r3
    have r1 := sq2.trans r2
    have rb := s4.trans r1
    have ra := s3.trans rb
    have tt := t1.trans ra
    have m := d.mono tt
    refine hN _ _ ⟨tt, q6, _, rfl, ⟨gq6, fun w hw => ?_, rfl⟩⟩
    have hw' : w = .ref q1 \/ w = .ref q2 \/ w = .ref q4 \/ w = .ref q5 := by simpa using hw
    rcases hw' with rfl | rfl | rfl | rfl
    . exact Xh (ra _ _ gq1) (i1.mono ((s2.trans sq1).trans ra)) (i2.mono (sq1.trans ra)) (by decide) (by decide) (Afn d.qf f2)
    . exact Xh (r2 _ _ gq2) (i3.mono rb) (i4.mono r1) (by decide) (by decide) (Af3 d.qf)
    . exact Xh (r4 _ _ gq4) m.iu (poN (l := 1) (r3 _ _ gq3) (Nat.le_refl 1)) (by decide) (by decide) (Afd T)
    . exact .lst (r5 _ _ gq5)
  rintro σ H2 ⟨s2, O, ws, rfl, o1⟩
  have d2 := d.mono s2
  have z11 : Sz 1 (1 : Int) := by unfold Sz; decide
  refine Bc (fun σ' H' => Same H2 H' /\ ∃ (O : Addr) (ws : List V), σ' = [some (.ref f), some (.int c), some (.int far), some (.ref O), some (.ref u), some (.ref v)] /\ Aha K H' O 7 ws) (fun N hN => ?_) ?_
  . contradiction
    (intro q1 hq1; generalize eq1 : upd _ q1 _ = Gq1; obtain ⟨sq1, gq1⟩ := nw hq1 eq1; clear eq1 hq1)
    refine Hq d2.iu sq1 (po2 (l := 2) (n := 1) gq1 (by decide) (by decide) (by decide) z11 z11) (Same.refl _) (by decide) (by decide) (by decide) fun z1 G1 s1 i1 => ?_
    try contradiction
    (intro q2 hq2; generalize eq2 : upd _ q2 _ = Gq2; obtain ⟨sq2, gq2⟩ := nw hq2 eq2; clear eq2 hq2)
    have t1 := (sq1.trans s1).trans sq2
    refine Hq d2.iv t1 (po2 (l := 2) (n := 1) gq2 (by decide) (by decide) (by decide) z11 z11) (Same.refl _) (by decide) (by decide) (by decide) fun z2 G2 s3 i2 => ?_
    try contradiction
    (intro q3 hq3; generalize eq3 : upd _ q3 _ = Gq3; obtain ⟨sq3, gq3⟩ := nw hq3 eq3; clear eq3 hq3)
    (intro q4 hq4; generalize eq4 : upd _ q4 _ = Gq4; obtain ⟨sq4, gq4⟩ := nw hq4 eq4; clear eq4 hq4)
    refine ⟨by decide, ?_⟩
    (intro q5 hq5; generalize eq5 : upd _ q5 _ = Gq5; obtain ⟨sq5, gq5⟩ := nw hq5 eq5; clear eq5 hq5)
    (intro q6 hq6; generalize eq6 : upd _ q6 _ = Gq6; obtain ⟨sq6, gq6⟩ := nw hq6 eq6; clear eq6 hq6)
    have t6 := ((((t1.trans s3).trans sq3).trans sq4).trans sq5).trans sq6
    refine ⟨u, q6, _, _, rfl, rfl, t6.tup d2.iu.sq, .of gq6, by rw [List.length_map]; exact Nat.le_trans (Nat.add_le_add_right d2.iu.2.2.1 _) (by decide), fun q7 G7 s7 h7 => ?_⟩
    try contradiction
    (intro q8 hq8; generalize eq8 : upd _ q8 _ = Gq8; obtain ⟨sq8, gq8⟩ := nw hq8 eq8; clear eq8 hq8)
    refine ⟨by decide, ?_⟩
    (intro q9 hq9; generalize eq9 : upd _ q9 _ = Gq9; obtain ⟨sq9, gq9⟩ := nw hq9 eq9; clear eq9 hq9)
    have r8 := sq9
    have r7 := sq8.trans r8
    have r6 := s7.trans r7
    have r5 := sq6.trans r6
    have r4 := sq5.trans r5
    have r3 := sq4.trans r4
    have r2 := sq3.trans r3
    have tt := (t1.trans s3).trans r2
    refine ⟨O, q9, _, _, rfl, rfl, tt _ _ o1.it, gq9, by rw [o1.len]; show 4 + 3 <= sizeLine; decide, ?_⟩
    (intro q10 hq10; generalize eq10 : upd _ q10 _ = Gq10; obtain ⟨sq10, gq10⟩ := nw hq10 eq10; clear eq10 hq10)
    have uu := tt.trans sq10
    have m := d2.mono uu
    have o2 := o1.mono uu
    refine hN _ _ ⟨uu, q10, _, rfl, ⟨gq10, fun w hw => ?_, by rw [List.length_append, o1.len]; rfl⟩⟩
    rcases List.mem_append.mp hw with hw | hw
    . exact o2.no w hw
    have hw' : w = .ref q3 \/ w = .ref q5 \/ w = .ref q8 := by simpa using hw
    rcases hw' with rfl | rfl | rfl
    . exact Ac0 d.qf (sq10 _ _ (r3 _ _ gq3)) (Ih (i1.mono (((sq2.trans s3).trans r2).trans sq10)) (by decide) (by decide)) (Ih (i2.mono (r2.trans sq10)) (by decide) (by decide))
    . exact .long (.of (sq10 _ _ (r5 _ _ gq5))) (by show 3 ≠ 2; decide)
    . refine .bad (.of (sq10 _ _ (r8 _ _ gq8))) (bu := false) ?_ (m.iv.th (by decide)) (.inl rfl)
      have e : decide (trim (T ++ [0]) = T ++ [0]) = false := decide_eq_false fun z => by rw [Um] at z; exact z rfl
      rw [<- e]
      refine .nums ((r7.trans sq10).tup ?_) (by rw [List.length_append]; have := d2.iu.2.2.1; simp; omega)
      rw [List.map_append]
      exact h7
  rintro σ H3 ⟨s3, O2, ws2, rfl, o2⟩
  have d3 := d2.mono s3
  contradiction
  refine ⟨u, _, rfl, .inr d3.iu.sq, ?_⟩
  (intro q1 hq1; generalize eq1 : upd _ q1 _ = Gq1; obtain ⟨sq1, gq1⟩ := nw hq1 eq1; clear eq1 hq1)
  (intro q2 hq2; generalize eq2 : upd _ q2 _ = Gq2; obtain ⟨sq2, gq2⟩ := nw hq2 eq2; clear eq2 hq2)
  (intro q3 hq3; generalize eq3 : upd _ q3 _ = Gq3; obtain ⟨sq3, gq3⟩ := nw hq3 eq3; clear eq3 hq3)
  have t3 := (sq1.trans sq2).trans sq3
  refine ⟨v, _, rfl, t3.tup d3.iv.sq, fun q4 G4 s4 h4 => ?_⟩
  rw [Ads] at h4
  try contradiction
  (intro q5 hq5; generalize eq5 : upd _ q5 _ = Gq5; obtain ⟨sq5, gq5⟩ := nw hq5 eq5; clear eq5 hq5)
  have lB : B.dropLast.length <= 4 := by rw [List.length_dropLast]; have := d3.iv.2.2.1; omega
  refine ⟨q4, q5, _, _, rfl, rfl, sq5.tup h4, .of gq5, by rw [List.length_map]; exact Nat.le_trans (Nat.add_le_add_right lB _) (by decide), fun q6 G6 s6 h6 => ?_⟩
  try contradiction
  (intro q7 hq7; generalize eq7 : upd _ q7 _ = Gq7; obtain ⟨sq7, gq7⟩ := nw hq7 eq7; clear eq7 hq7)
  refine ⟨by decide, ?_⟩
  (intro q8 hq8; generalize eq8 : upd _ q8 _ = Gq8; obtain ⟨sq8, gq8⟩ := nw hq8 eq8; clear eq8 hq8)
  have r7 := sq8
  have r6 := sq7.trans r7
  have r3 := ((s4.trans sq5).trans s6).trans r6
  have r2 := sq3.trans r3
  have r1 := sq2.trans r2
  have tt := sq1.trans r1
  refine ⟨O2, q8, _, _, rfl, rfl, tt _ _ o2.it, gq8, by rw [o2.len]; show 7 + 5 <= sizeLine; decide, ?_⟩
  (intro q9 hq9; generalize eq9 : upd _ q9 _ = Gq9; obtain ⟨sq9, gq9⟩ := nw hq9 eq9; clear eq9 hq9)
  have uu := tt.trans sq9
  have m := d3.mono uu
  have o3 := o2.mono uu
  refine k q9 _ _ ((s2.trans s3).trans uu) ⟨gq9, fun w hw => ?_, by rw [List.length_append, o2.len]; rfl⟩
  rcases List.mem_append.mp hw with hw | hw
  . exact o3.no w hw
  have hw' : w = .ref u \/ w = .non \/ w = .ref q2 \/ w = .ref q3 \/ w = .ref q7 := by simpa using hw
  rcases hw' with rfl | rfl | rfl | rfl | rfl
  . by_cases l2 : T.length = 2
    . obtain ⟨x, y, e⟩ : ∃ x y, T = [x, y] := by
        match T, l2 with
        | [x, y], _ => exact ⟨x, y, rfl⟩
      have := m.iu.sq
      rw [e] at this
      exact .bad this (.int x) (.int y) (.inl rfl)
    . exact .long m.iu.sq (by rw [List.length_map]; exact l2)
  . exact .non
  . exact .bad (.of (sq9 _ _ (r2 _ _ gq2))) (.lst (sq9 _ _ (r1 _ _ gq1))) (m.iv.th (by decide)) (.inl rfl)
  . exact .bad (.of (sq9 _ _ (r3 _ _ gq3))) (m.iu.th (by decide)) (.int 5) (.inr rfl)
  . exact .bad (.of (sq9 _ _ (r7 _ _ gq7))) (m.iu.th (by decide)) (Afa ((r6.trans sq9).tup h6) (by omega)) (.inr rfl)
theorem Adz {p q m : List Int} {c : Int} : tm p (ng (tm q m) c) = tm (ng (tm p m) c) q := by
  refine (Dj _ _).ext (Dj _ _) fun i => ?_
  have f : ∀ (a b : List Int) (i : Nat), co (tm a (ng b c)) i = c * co (tm a b) i := fun a b i => by
    rw [Bq, Bv, Bq a b, Bv, <- Jp c b (co a) i]
    exact congrFun (Bm (co a) _ _ fun j => by rw [O9, Bw, Int.mul_comm]) i
  rw [f, Bq (ng _ c) q, f, <- Br, Br, Bq q m, <- Br, Bq (tm p m) q]
theorem Ahn {q T B : List Int} (h : QF [] q T B) (tq : Tr q) (nq : q ≠ []) : T = [] /\ B = [1] := by
  have e : QF [] q [] [1] := ⟨.inl rfl, .inr ⟨by simp, by decide⟩, by simp, by decide, by decide, fun d td _ d1 => by
    have := (d1.len td (.inr ⟨by simp, by decide⟩) (by simp)).2
    exact this, by rw [Aau]; exact (Dj _ _).ext (.inl rfl) fun i => by rw [Bv, Ay]; rfl⟩
  exact h.uniq e tq nq tq nq rfl
open Classical in
theorem QF.cop_true {p q T B : List Int} (h : QF p q T B) : Ach T B = true := by
  unfold Ach
  refine decide_eq_true ⟨[1], ⟨.inr ⟨by simp, by decide⟩, by decide, Jm 1 (by decide) T, Jm 1 (by decide) B, fun d dT dB => ?_⟩, rfl⟩
  have l := h.cop (trim d) (Av d) (Oj dT) (Oj dB)
  have n0 := ((Oj dB).len (Av d) h.tB h.nB).1
  have x : Dv (trim d) [1] := by
    cases hd : trim d with
    | nil => exact absurd hd n0
    | cons k r =>
      rw [hd] at l
      have e : r = [] := List.eq_nil_of_length_eq_zero (by simpa using l)
      subst e
      have k0 := (Av d).lead n0
      rw [hd] at k0
      exact Jm k (by simpa [Bu] using k0) [1]
  exact x.of_scale (a := 1) (b := 1) (by decide) fun i => by rw [Am]
theorem Aii : Few 4 102 := ⟨by decide, by decide, by decide, by decide⟩
theorem Ajs : Few 8 80 := ⟨by decide, by decide, by decide, by decide⟩
theorem Ahl {f : Addr} {fd : FuncData} (F : Df K mg "law" Tc ["_law_script"] f fd) (z_isinstance : mg "isinstance" = none) (z_tuple : mg "tuple" = none) (z_len : mg "len" = none) (z_range : mg "range" = none)  (c_q_cell_at : Cal P w K mg base 1 "_law_cell_at" ["_law_script", "_law_k"] (Jx K)) (c_q_poly : Cal P w K mg base 3 "_law_poly" ["_law_cell", "_law_size"] (Qt K)) (c_q_not_nought : Cal P w K mg base 4 "_law_not_nought" ["_law_cell", "_law_size"] (Jt K)) (c_q_of : Cal P w K mg base 10 "q_of" ["p", "q"] (Wb K)) (c_q_others : Cal P w K mg base 2 "_law_others" ["_law_found", "_law_cell"] (Pu K)) (c_is_quotient : Cal P w K mg base 10 "is_quotient" ["thing"] (Mh K)) (c_p_times : Cal P w K mg base 1 "p_times" ["one", "other"] (Ds K)) (c_scaled : Cal P w K mg base 1 "scaled" ["one", "factor"] (Ew K)) (c_q_refused : Cal P w K mg base 12 "_law_refused" ["_law_p", "_law_deed"] (O5 K)) : Rx P w K mg base CX0 13 f fd ["_law_script"] (Adc K) := by
  refine F.fn.ok Ni (fun vs H Q E h => ?_) (fun cdv A outer s H vs Q E hr h => ?_)
  . obtain ⟨a, ns, rfl, _⟩ := h
    rfl
  obtain ⟨a, ns, rfl, hS, h63, k⟩ := h
  refine S.Bd ⟨_, (S.Ac (S.Ah (i := 1) Ni.nd rfl (Or.inl rfl) (S.Ai c_q_cell_at (hr.mono (by decide)) (S.Aa (S.pv 0) (S.Aa S.Ad S.Ab))))
      (S.Ac (S.Ah (i := 2) Ni.nd rfl (Or.inl rfl) (S.Bo Fg (S.Ht (S.Aa S.Ad (S.Aa S.Ad (S.Aa S.Ad (S.Aa (S.Ak Aaa S.Ad S.Ad) S.Ab))))) (S.Ak Ec (S.pv 1) S.Ad) (fun _ _ => rfl)))
      (S.Ac (S.Ah (i := 3) Ni.nd rfl (Or.inr rfl) (S.Ai c_q_poly (hr.mono (by decide)) (S.Aa (S.Ai c_q_cell_at (hr.mono (by decide)) (S.Aa (S.pv 0) (S.Aa S.Ad S.Ab))) (S.Aa (S.pv 2) S.Ab))))
      (S.Ac (S.Ah (i := 4) Ni.nd rfl (Or.inl rfl) (S.Ai c_q_not_nought (hr.mono (by decide)) (S.Aa (S.Ai c_q_cell_at (hr.mono (by decide)) (S.Aa (S.pv 0) (S.Aa S.Ad S.Ab))) (S.Aa (S.pv 2) S.Ab))))
      (S.Ac (S.Ah (i := 5) Ni.nd rfl (Or.inl rfl) (S.Ai c_q_not_nought (hr.mono (by decide)) (S.Aa (S.Ai c_q_cell_at (hr.mono (by decide)) (S.Aa (S.pv 0) (S.Aa S.Ad S.Ab))) (S.Aa (S.pv 2) S.Ab))))
      (S.Ac (S.Ah (i := 6) Ni.nd rfl (Or.inl rfl) (S.Bo Fg (S.Ht (S.Aa S.Ad (S.Aa (S.Dr Ci S.Ad) (S.Aa S.Ad (S.Aa (S.Dr Ci S.Ad) (S.Aa (S.Ak Cw S.Ad (S.Ak Ec (S.Ak Er (S.pv 1) S.Ad) (S.Ak Aaa S.Ad S.Ad))) S.Ab)))))) (S.Ak Ec (S.Ak Er (S.pv 1) S.Ad) S.Ad) (fun _ _ => rfl)))
      (S.Ac (S.Ah (i := 7) Ni.nd rfl (Or.inl rfl) (S.Ai c_q_of (hr.mono (by decide)) (S.Aa (S.pv 3) (S.Aa (S.pv 4) S.Ab))))
      (S.Ac (S.Cy (S.O6 (S.Ms (S.J2 (S.Il (S.Dd T7 rfl z_isinstance PyProof.Rows.boot_isinstance (S.Aa (S.pv 7) (S.Aa (S.Iv (v := .ty "tuple") rfl z_tuple PyProof.Rows.boot_tuple rfl) S.Ab))))) (S.Ms (S.Aj Ry (S.Dd Aw rfl z_len PySem.boot_len (S.Aa (S.pv 7) S.Ab)) S.Ad (Aq _)) (S.J1 (S.Aj Aag (S.Ai c_is_quotient (hr.mono (by decide)) (S.Aa (S.pv 7) S.Ab)) S.Li (Aq _)))))) (S.Ae (S.Al S.Li)) S.Bb)
      (S.Ac (S.Cy (S.O6 (S.Ms (S.Aj (Vl hr.units) (S.Ai c_p_times (hr.mono (by decide)) (S.Aa (S.Bo Az (S.pv 7) S.Ad (fun _ _ => rfl)) (S.Aa (S.pv 4) S.Ab))) (S.Ai c_p_times (hr.mono (by decide)) (S.Aa (S.Bo Az (S.pv 7) S.Ad (fun _ _ => rfl)) (S.Aa (S.pv 3) S.Ab))) (Aq _)) (S.J1 (S.Aj (Xo hr.units) (S.Ai c_q_of (hr.mono (by decide)) (S.Aa (S.Bo Az (S.pv 7) S.Ad (fun _ _ => rfl)) (S.Aa (S.Bo Az (S.pv 7) S.Ad (fun _ _ => rfl)) S.Ab))) (S.pv 7) (Aq _))))) (S.Ae (S.Al S.Li)) S.Bb)
      (S.Ac (S.Cy (S.Aj (Xo hr.units) (S.Ai c_q_of (hr.mono (by decide)) (S.Aa (S.Ai c_scaled (hr.mono (by decide)) (S.Aa (S.Ai c_p_times (hr.mono (by decide)) (S.Aa (S.pv 3) (S.Aa (S.pv 5) S.Ab))) (S.Aa (S.pv 6) S.Ab))) (S.Aa (S.Ai c_scaled (hr.mono (by decide)) (S.Aa (S.Ai c_p_times (hr.mono (by decide)) (S.Aa (S.pv 4) (S.Aa (S.pv 5) S.Ab))) (S.Aa (S.pv 6) S.Ab))) S.Ab))) (S.pv 7) (Aq _)) (S.Ae (S.Al S.Li)) S.Bb)
      (S.Ac (S.Cy (S.O6 (S.Vg (S.Aj (Im hr.units) (S.pv 3) (S.Ar S.Ab) (Aq _)) (S.Px (S.Aj (Xo hr.units) (S.pv 7) (S.Ar (S.Aa (S.Ar S.Ab) (S.Aa (S.Ar (S.Aa S.Ad S.Ab)) S.Ab))) (Aq _))))) (S.Ae (S.Al S.Li)) S.Bb)
      (S.Ac (S.Ey PassesOwn.never rfl (S.Oo (S.Ai c_q_others (hr.mono (by decide)) (S.Aa (S.pv 7) (S.Aa (S.Ak Er (S.pv 1) S.Ad) S.Ab)))) (S.Ax (i := 8) Ni.nd rfl (Or.inl rfl)) (S.Ae (S.Cy (S.Aj Aag (S.Ai c_is_quotient (hr.mono (by decide)) (S.Aa (S.pv 8) S.Ab)) S.Li (Aq _)) (S.Ae (S.Al S.Li)) S.Bb)))
      (S.Ae (S.Al (S.Hv (Ad3 hr.units) (S.Jl (ts := ["_law_deed"]) (fs := [(3, "_law_one")]) rfl (Cq.of (sc := Ag Tc) (N := ["_law_script", "_law_cell", "_law_size", "_law_one", "_law_other", "_law_more", "_law_by", "_law_found", "_law_thing"]) rfl rfl (by decide +kernel)) (S.J4 rfl z_range (S.Aa S.Ad S.Ab)) (fun _ _ _ => (S.Ax (i := 0) (show List.Nodup (["_law_deed", "_law_one"] : List Str) by decide +kernel) rfl (Or.inl rfl))) (fun _ _ _ => (S.W3 (S.J2 (S.Il (S.Ai c_q_refused (hr.mono (by decide)) (S.Aa (S.pv 1) (S.Aa (S.pv 0) S.Ab))))))) (fun _ _ _ => (S.pv 0))) (S.Ht S.Ab) (Aq _)))))))))))))))), ?_⟩
  refine Bc (fun σ' H' => H' = H /\ ∃ c : Int, σ' = [some (.ref a), some (.int c), none, none, none, none, none, none, none]) (fun N hN => ?_) ?_
  . contradiction
    refine X4 hS (Same.refl _) (by decide) ?_
    try contradiction
    exact hN _ _ ⟨rfl, _, rfl⟩
  rintro σ H0 ⟨rfl, c, rfl⟩
  refine Bc (fun σ' H' => Same H0 H' /\ ∃ n : Int, 0 <= n /\ n < 2 ^ 20 /\ σ' = [some (.ref a), some (.int c), some (.int n), none, none, none, none, none, none]) (fun N hN => ?_) ?_
  . contradiction
    have e6 : (10 : Int) ^ Int.toNat 6 = 1000000 := by decide
    rw [e6]
    refine ⟨⟨by decide, by decide, by decide⟩, by decide, ?_⟩
    (intro q1 hq1; generalize eq1 : upd _ q1 _ = Gq1; obtain ⟨sq1, gq1⟩ := nw hq1 eq1; clear eq1 hq1)
    have menu : ∃ x : Int, atI [V.int 9, V.int 9, V.int 3, V.int 1000000] (c % 4) = some (.int x) /\ 0 <= x /\ x < 2 ^ 20 := by
      have : c % 4 = 0 \/ c % 4 = 1 \/ c % 4 = 2 \/ c % 4 = 3 := by omega
      rcases this with h | h | h | h <;> rw [h]
      . exact ⟨9, rfl, by decide, by decide⟩
      . exact ⟨9, rfl, by decide, by decide⟩
      . exact ⟨3, rfl, by decide, by decide⟩
      . exact ⟨_, rfl, by decide, by decide⟩
    obtain ⟨x, ex, x0, x1⟩ := menu
    refine ⟨by decide, Ack (.of gq1) ex ?_⟩
    exact hN _ _ ⟨sq1, x, x0, x1, rfl⟩
  rintro σ H1 ⟨s1, n, n0, n1, rfl⟩
  refine Bc (fun σ' H' => Same H0 H' /\ ∃ (x : V) (p : List Int), Po K H' x p 4 21 /\ σ' = [some (.ref a), some (.int c), some (.int n), some x, none, none, none, none, none]) (fun N hN => ?_) ?_
  . contradiction
    refine X4 hS s1 (by decide) ?_
    try contradiction
    exact ⟨_, _, rfl, n0, n1, fun z H2 p s2 i2 => hN _ _ ⟨s1.trans s2, z, p, i2, rfl⟩⟩
  rintro σ H2 ⟨s2, x, p, ip, rfl⟩
  refine Bc (fun σ' H' => Same H2 H' /\ ∃ (y : V) (q : List Int), Po K H' y q 4 21 /\ q ≠ [] /\ σ' = [some (.ref a), some (.int c), some (.int n), some x, some y, none, none, none, none]) (fun N hN => ?_) ?_
  . contradiction
    refine X4 hS s2 (by decide) ?_
    try contradiction
    exact ⟨_, _, rfl, n0, n1, fun z H3 p s3 i3 np => hN _ _ ⟨s3, z, p, i3, np, rfl⟩⟩
  rintro σ H3 ⟨s3, y, q, iq, nq, rfl⟩
  refine Bc (fun σ' H' => Same H3 H' /\ ∃ (w : V) (m : List Int), Po K H' w m 4 21 /\ m ≠ [] /\ σ' = [some (.ref a), some (.int c), some (.int n), some x, some y, some w, none, none, none]) (fun N hN => ?_) ?_
  . contradiction
    refine X4 hS (s2.trans s3) (by decide) ?_
    try contradiction
    exact ⟨_, _, rfl, n0, n1, fun z H4 p s4 i4 np => hN _ _ ⟨s4, z, p, i4, np, rfl⟩⟩
  rintro σ H4 ⟨s4, w, m, im, nm, rfl⟩
  replace ip := ip.mono (s3.trans s4)
  replace iq := iq.mono s4
  have s04 := (s2.trans s3).trans s4
  clear s1 s2 s3 s4
  refine Bc (fun σ' H' => Same H4 H' /\ ∃ b : Int, b ≠ 0 /\ Sz 31 b /\ σ' = [some (.ref a), some (.int c), some (.int n), some x, some y, some w, some (.int b), none, none]) (fun N hN => ?_) ?_
  . contradiction
    have e9 : (10 : Int) ^ Int.toNat 9 = 1000000000 := by decide
    rw [e9]
    refine ⟨⟨by decide, by decide⟩, ⟨by decide, by decide, by decide⟩, by decide, by decide, ?_⟩
    (intro q1 hq1; generalize eq1 : upd _ q1 _ = Gq1; obtain ⟨sq1, gq1⟩ := nw hq1 eq1; clear eq1 hq1)
    have menu : ∃ b : Int, atI [V.int 1, V.int (-1), V.int 6, V.int (-35), V.int (2 + c / 24 % 1000000000)] (c / 4 % 5) = some (.int b) /\ b ≠ 0 /\ Sz 31 b := by
      have : c / 4 % 5 = 0 \/ c / 4 % 5 = 1 \/ c / 4 % 5 = 2 \/ c / 4 % 5 = 3 \/ c / 4 % 5 = 4 := by omega
      rcases this with h | h | h | h | h <;> rw [h]
      . exact ⟨1, rfl, by decide, by unfold Sz; decide⟩
      . exact ⟨-1, rfl, by decide, by unfold Sz; decide⟩
      . exact ⟨6, rfl, by decide, by unfold Sz; decide⟩
      . exact ⟨-35, rfl, by decide, by unfold Sz; decide⟩
      . exact ⟨_, rfl, by omega, by unfold Sz; omega⟩
    obtain ⟨b, eb, b0, zb⟩ := menu
    refine ⟨⟨by decide, by decide⟩, by decide, Ack (.of gq1) eb ?_⟩
    exact hN _ _ ⟨sq1, b, b0, zb, rfl⟩
  rintro σ H5 ⟨s5, b, b0, zb, rfl⟩
  replace ip := ip.mono s5
  replace iq := iq.mono s5
  replace im := im.mono s5
  refine Bc (fun σ' H' => Same H5 H' /\ ∃ (f u v : Addr) (T B : List Int), FdQ K H' f u v p q T B /\ σ' = [some (.ref a), some (.int c), some (.int n), some x, some y, some w, some (.int b), some (.ref f), none]) (fun N hN => ?_) ?_
  . contradiction
    refine ⟨x, y, p, q, 4, 21, rfl, ip, iq, Akk, by decide, by decide, nq, fun z H6 vT vB T B s6 hz iT iB qf => ?_⟩
    obtain ⟨⟨u, rfl, _⟩, _⟩ := id iT
    obtain ⟨⟨v, rfl, _⟩, _⟩ := id iB
    exact hN _ _ ⟨s6, z, u, v, T, B, ⟨hz, iT, iB, qf⟩, rfl⟩
  rintro σ H6 ⟨s6, f, u, v, T, B, d, rfl⟩
  replace ip := ip.mono s6
  replace iq := iq.mono s6
  replace im := im.mono s6
  have s06 := (s04.trans s5).trans s6
  have tp := ip.2.1
  have tq := iq.2.1
  have cb : Ach T B = true := d.qf.cop_true
  refine Bc (fun σ' H' => Same H6 H' /\ σ' = [some (.ref a), some (.int c), some (.int n), some x, some y, some w, some (.int b), some (.ref f), none]) (fun N hN => ?_) ?_
  . contradiction
    refine isa (.tup d.it) Q7 ?_
    try contradiction
    refine ⟨_, _, rfl, .inr d.it, ?_⟩
    try contradiction
    refine ⟨_, Ach T B, rfl, .yes d.it d.iu d.iv Aii d.qf.hpw, fun H7 s7 => ?_⟩
    rw [cb]
    try contradiction
    refine ⟨_, _, rfl, rfl, ?_⟩
    try contradiction
    exact hN _ _ ⟨s7, rfl⟩
  rintro σ H7 ⟨s7, rfl⟩
  replace d := d.mono s7
  replace ip := ip.mono s7
  replace iq := iq.mono s7
  replace im := im.mono s7
  refine Bc (fun σ' H' => Same H7 H' /\ σ' = [some (.ref a), some (.int c), some (.int n), some x, some y, some w, some (.int b), some (.ref f), none]) (fun N hN => ?_) ?_
  . contradiction
    refine Ce d.it (at0 _ _) (Hq d.iu (Same.refl _) iq (Same.refl _) (by decide) (by decide) (by decide) fun z1 G1 t1 i1 => ?_)
    try contradiction
    refine Ce (t1.tup d.it) (at1 _ _ _) (Hq d.iv t1 ip t1 (by decide) (by decide) (by decide) fun z2 G2 t2 i2 => ?_)
    obtain ⟨⟨c1, rfl, h1⟩, _⟩ := id i1
    obtain ⟨⟨c2, rfl, h2⟩, _⟩ := id i2
    try contradiction
    refine Cv (t2.tup h1) h2 ?_
    rw [decide_eq_true d.qf.eq]
    try contradiction
    have t12 := t1.trans t2
    refine Ce (t12.tup d.it) (at0 _ _) (Ce (t12.tup d.it) (at1 _ _ _) ?_)
    refine ⟨_, _, T, B, 4, 102, rfl, d.iu.mono t12, d.iv.mono t12, Aii, by decide, by decide, d.qf.nB, fun z3 G3 vT vB T3 B3 t3 hz iT iB qf3 => ?_⟩
    obtain ⟨⟨c3, rfl, h3⟩, _⟩ := id iT
    obtain ⟨⟨c4, rfl, h4⟩, _⟩ := id iB
    obtain ⟨e1, e2⟩ := qf3.uniq d.qf.self d.qf.tB d.qf.nB d.qf.tB d.qf.nB rfl
    have t13 := t12.trans t3
    try contradiction
    refine Tz hz h3 h4 (t13.tup d.it) (t13.tup d.iu.sq) (t13.tup d.iv.sq) ?_
    rw [decide_eq_true e1, decide_eq_true e2]
    try contradiction
    exact hN _ _ ⟨t13, rfl⟩
  rintro σ H8 ⟨s8, rfl⟩
  replace d := d.mono s8
  replace ip := ip.mono s8
  replace iq := iq.mono s8
  replace im := im.mono s8
  refine Bc (fun σ' H' => Same H8 H' /\ σ' = [some (.ref a), some (.int c), some (.int n), some x, some y, some w, some (.int b), some (.ref f), none]) (fun N hN => ?_) ?_
  . contradiction
    refine Hq ip (Same.refl _) im (Same.refl _) (by decide) (by decide) (by decide) fun z1 G1 t1 i1 => ?_
    try contradiction
    refine Kd i1 (Same.refl _) zb (by decide) (by decide) fun z2 G2 t2 i2 => ?_
    try contradiction
    have t12 := t1.trans t2
    refine Hq iq t12 im t12 (by decide) (by decide) (by decide) fun z3 G3 t3 i3 => ?_
    try contradiction
    refine Kd i3 (Same.refl _) zb (by decide) (by decide) fun z4 G4 t4 i4 => ?_
    try contradiction
    have nQ : ng (tm q m) b ≠ [] := by
      have t := Dj q m
      rw [Xl t b0]
      intro z
      exact Afm tq im.2.1 nq nm (List.map_eq_nil_iff.mp z)
    refine ⟨_, _, ng (tm p m) b, ng (tm q m) b, 8, 80, rfl, Ih (i2.mono (t3.trans t4)) (by decide) (by decide), Ih i4 (by decide) (by decide), Ajs, by decide, by decide, nQ, fun z5 G5 vT vB T3 B3 t5 hz iT iB qf3 => ?_⟩
    obtain ⟨⟨c3, rfl, h3⟩, _⟩ := id iT
    obtain ⟨⟨c4, rfl, h4⟩, _⟩ := id iB
    obtain ⟨e1, e2⟩ := qf3.uniq d.qf i4.2.1 nQ tq nq Adz.symm
    have t15 := ((t12.trans t3).trans t4).trans t5
    try contradiction
    refine Tz hz h3 h4 (t15.tup d.it) (t15.tup d.iu.sq) (t15.tup d.iv.sq) ?_
    rw [decide_eq_true e1, decide_eq_true e2]
    try contradiction
    exact hN _ _ ⟨t15, rfl⟩
  rintro σ H9 ⟨s9, rfl⟩
  replace d := d.mono s9
  replace ip := ip.mono s9
  replace iq := iq.mono s9
  refine Bc (fun σ' H' => Same H9 H' /\ σ' = [some (.ref a), some (.int c), some (.int n), some x, some y, some w, some (.int b), some (.ref f), none]) (fun N hN => ?_) ?_
  . obtain ⟨⟨c1, rfl, h1⟩, _⟩ := id ip
    contradiction
    refine ⟨by decide, ?_⟩
    (intro q1 hq1; generalize eq1 : upd _ q1 _ = Gq1; obtain ⟨sq1, gq1⟩ := nw hq1 eq1; clear eq1 hq1)
    refine Cv (ms := []) (sq1.tup h1) (.of gq1) ?_
    by_cases p0 : p = []
    . rw [decide_eq_true p0]
      have qf := d.qf
      rw [p0] at qf
      obtain ⟨e1, e2⟩ := Ahn qf tq nq
      try contradiction
      refine ⟨by decide, ?_⟩
      (intro q2 hq2; generalize eq2 : upd _ q2 _ = Gq2; obtain ⟨sq2, gq2⟩ := nw hq2 eq2; clear eq2 hq2)
      (intro q3 hq3; generalize eq3 : upd _ q3 _ = Gq3; obtain ⟨sq3, gq3⟩ := nw hq3 eq3; clear eq3 hq3)
      (intro q4 hq4; generalize eq4 : upd _ q4 _ = Gq4; obtain ⟨sq4, gq4⟩ := nw hq4 eq4; clear eq4 hq4)
      have t4 := ((sq1.trans sq2).trans sq3).trans sq4
      refine Tz (T' := []) (B' := [1]) (t4.tup d.it) (t4.tup d.iu.sq) (t4.tup d.iv.sq) (.of gq4) (.of ((sq3.trans sq4) _ _ gq2)) (.of (sq4 _ _ gq3)) ?_
      rw [decide_eq_true e1, decide_eq_true e2]
      try contradiction
      exact hN _ _ ⟨t4, rfl⟩
    . rw [decide_eq_false p0]
      try contradiction
      exact hN _ _ ⟨sq1, rfl⟩
  rintro σ H10 ⟨s10, rfl⟩
  replace d := d.mono s10
  replace ip := ip.mono s10
  refine Bc (fun σ' H' => Same H10 H' /\ ∃ o : Option V, σ' = [some (.ref a), some (.int c), some (.int n), some x, some y, some w, some (.int b), some (.ref f), o]) (fun N hN => ?_) ?_
  . contradiction
    refine ⟨⟨by decide, by decide⟩, f, u, v, c / 24, p, q, T, B, rfl, d, fun z H11 ws t1 od => ?_⟩
    refine ⟨z, rfl, ⟨_, .of od.it⟩, Ado (es := ws) (inj := id) (fun pre σ' H' => Same H11 H' /\ ∃ o : Option V, σ' = [some (.ref a), some (.int c), some (.int n), some x, some y, some w, some (.int b), some (.ref f), o]) ⟨Same.refl _, _, rfl⟩ ?_ ?_ ?_⟩
    . rintro pre σ' H' ⟨s', _⟩
      exact Aaw (by rw [List.map_id]; exact .of (s' _ _ od.it))
    . rintro pre e post σ' H' he ⟨s', o8, rfl⟩
      contradiction
      refine ⟨_, false, rfl, (od.no e (by rw [he]; simp)).mono s', fun H12 s12 => ?_⟩
      try contradiction
      refine ⟨_, _, rfl, rfl, ?_⟩
      try contradiction
      exact ⟨s'.trans s12, _, rfl⟩
    . rintro σ' H' ⟨s', o8, rfl⟩
      exact hN _ _ ⟨t1.trans s', _, rfl⟩
  rintro σ H11 ⟨s11, o, rfl⟩
  replace ip := ip.mono s11
  contradiction
  refine ⟨by decide, by decide, fun p0 hp0 => ?_⟩
  refine Yl (es := List.range 4) (inj := fun i => .int (0 + (i : Nat))) (fun _ => false) (fun i => .int (0 + (i : Nat))) (by decide) hp0 Xz ?_ ?_
  . intro e H12 R RF he s12 hR hF
    contradiction
    refine ⟨x, p, _, rfl, ip.mono s12, fun H13 s13 => ?_⟩
    try contradiction
    exact hF rfl _ s13
  . intro H12 s12 h12
    refine ⟨by decide, fun q2 hq2 => ?_⟩
    have s13 := Same.upd hq2 (.lst [])
    have e0 : ((List.range 4).filter fun _ => false).map (fun (i : Nat) => V.int (0 + (i : Nat))) = ([] : List Int).map V.int := rfl
    rw [e0] at h12
    refine Adb (ns := []) (ms := []) (.of (s13 _ _ h12)) (.of Af) ?_
    try contradiction
    exact k _
end
abbrev Fd (K : PySem.W.Frag) (x : Str) (st : Stmt) : Prop := ∃ (f : Addr) (od an : Option Addr) (sl : Array (Option Value)) (oc kV dc pm cd ct : Value), PySem.W.nsIn K mainGlobals x = some (some (.ref f)) /\ K.lookup f = some ⟨oc, od, .func (PySem.W.fnOf x x (Ml st) (Jk st) (Ag st) .none kV dc pm an cd ct), sl⟩ /\ PySem.W.codeIn K cd x = true /\ PySem.W.keepIn K (.ref f) = true
theorem Cj {K : PySem.W.Frag} {h : Heap} {mg : Str -> Option Value} {x : Str} {st : Stmt} (X : K.In h) (G : h.Ns mainGlobals mg) (d : Fd K x st) (ps : List Str) (hb : ∀ (kV doc pm : Value) (an : Option Addr) (cdv ct : Value) (us : List Value), us.length = ps.length -> bindArgs (PySem.W.fnOf x x (Ml st) (Jk st) (Ag st) .none kV doc pm an cdv ct) ⟨us, []⟩ = pure (ps.zip us)) : ∃ f fd, Df K mg x st ps f fd := by
  obtain ⟨f, _, _, _, _, _, _, _, _, _, a, l, c, k⟩ := d
  have F := Aev (st := st) l c k
  exact ⟨_, _, F, F.binds hb, PySem.W.mg_of X G a⟩
theorem all_mk {l : PySem.W.OpenLaw} {w : World} {K : PySem.W.Frag} {h : Heap} {mg : Str -> Option Value} {fa : Addr} (X : K.In h) (G : h.Ns mainGlobals mg) (hfa : mg "law" = some (.ref fa))
    (d1 : Fd K "_law_cell_at" Mv) (d2 : Fd K "poly" Abd) (d3 : Fd K "_law_mixed" Qw) (d4 : Fd K "_law_digits" N6) (d5 : Fd K "_law_poly" Ph) (d6 : Fd K "_law_not_nought" Ib) (d7 : Fd K "degree" Uj) (d8 : Fd K "by_number" Jd) (d9 : Fd K "scaled" Pj) (d10 : Fd K "inverse_by" Js) (d11 : Fd K "single" S8) (d12 : Fd K "m_parted" Oq) (d13 : Fd K "m_rest" Ug) (d14 : Fd K "m_shared" Nz) (d15 : Fd K "surely_apart" Hw) (d16 : Fd K "shrunk" Pg) (d17 : Fd K "divisor" Qy) (d18 : Fd K "divisor_of" J3) (d19 : Fd K "content" Rj) (d20 : Fd K "unit" Abw) (d21 : Fd K "plain" Wi) (d22 : Fd K "p_times" Rg) (d23 : Fd K "repeated" Oi) (d24 : Fd K "power" Wg) (d25 : Fd K "whole_power" Je) (d26 : Fd K "raised" Ud) (d27 : Fd K "p_plus" Pb) (d28 : Fd K "p_minus" Rf) (d29 : Fd K "scaled_division" Eo) (d30 : Fd K "next_row" Od) (d31 : Fd K "last_row" Kh) (d32 : Fd K "shared" Ue) (d33 : Fd K "long_division" Dp) (d34 : Fd K "whole_part" J8) (d35 : Fd K "q_of" Z0) (d36 : Fd K "_law_others" Ot) (d37 : Fd K "is_whole" Nv) (d38 : Fd K "is_poly" M6) (d39 : Fd K "has_plain_weights" Eh) (d40 : Fd K "is_quotient" Jf) (d41 : Fd K "q_over" Tp) (d42 : Fd K "q_paper" Qk) (d43 : Fd K "fraction" Ol) (d44 : Fd K "over" Aa4) (d45 : Fd K "whole_value" Jc) (d46 : Fd K "value" W9) (d47 : Fd K "q_value" Pz) (d48 : Fd K "_law_refused" Mp) (d49 : Fd K "law" Tc)
    {qNoPart : Addr} (aNoPart : PySem.W.nsIn K mainGlobals "NoPart" = some (some (.ref qNoPart)))
    {qCourtError : Addr} (aCourtError : PySem.W.nsIn K mainGlobals "CourtError" = some (some (.ref qCourtError)))
    {qNoFree : Addr} (aNoFree : PySem.W.nsIn K mainGlobals "NoFree" = some (some (.ref qNoFree)))
    {qNoInverse : Addr} (aNoInverse : PySem.W.nsIn K mainGlobals "NoInverse" = some (some (.ref qNoInverse)))
    {tPRIME : Tok}
    (xkNoPart : PySem.W.excIn K qNoPart [.type "ValueError", .type "Exception", .type "BaseException", .type "object"] "ValueError.__new__" = true)
    (xcPRIME : PySem.W.nsIn K mainGlobals "PRIME" = some (some (.int 2305843009213693951 tPRIME)))
    (xigetattributeNoPart : PySem.W.findIn K (.ref qNoPart) "__getattribute__" = some (some (.builtin "BaseException.__getattribute__")))
    (xigetattrNoPart : PySem.W.findIn K (.ref qNoPart) "__getattr__" = some none)
    (xiclassNoPart : PySem.W.findIn K (.ref qNoPart) "__class__" = some (some (.builtin "object.__class__")))
    (xiobjectNoPart : PySem.W.mroIn K qNoPart (.type "object") = some true)
    (xiBaseExceptionNoPart : PySem.W.mroIn K qNoPart (.type "BaseException") = some true)
    (kiNoPartCourtError : PySem.W.kitOne K (.ref qNoPart) (.ref qCourtError) = some true)
    (kiNoPartNoFree : PySem.W.kitOne K (.ref qNoPart) (.ref qNoFree) = some false)
    (kiNoPartNoInverse : PySem.W.kitOne K (.ref qNoPart) (.ref qNoInverse) = some false)
    (zlen : PySem.W.nsIn K mainGlobals "len" = some none) (ztuple : PySem.W.nsIn K mainGlobals "tuple" = some none) (zrange : PySem.W.nsIn K mainGlobals "range" = some none) (zlist : PySem.W.nsIn K mainGlobals "list" = some none) (zmax : PySem.W.nsIn K mainGlobals "max" = some none) (zenumerate : PySem.W.nsIn K mainGlobals "enumerate" = some none) (zabs : PySem.W.nsIn K mainGlobals "abs" = some none) (zzip : PySem.W.nsIn K mainGlobals "zip" = some none) (zisinstance : PySem.W.nsIn K mainGlobals "isinstance" = some none) (zint : PySem.W.nsIn K mainGlobals "int" = some none) (zbool : PySem.W.nsIn K mainGlobals "bool" = some none) (zall : PySem.W.nsIn K mainGlobals "all" = some none) (zreversed : PySem.W.nsIn K mainGlobals "reversed" = some none) :
    ∃ fd : FuncData, (∀ (s : Shared) (v : Value), BindsTo s fd ⟨[v], []⟩ [("_law_script", v)]) /\ ∀ base : Heap, K.In base -> base.Ns mainGlobals mg -> Rx l.prog w K mg base CX0 13 fa fd ["_law_script"] (Adc K) := by
  obtain ⟨f49, _, an, sl, oc, kV, dc, pm, cd, ct, a49, l49, c49, k49⟩ := d49
  obtain ⟨f22, _, _, _, _, _, _, _, _, _, a22, _⟩ := id d22
  obtain ⟨f32, _, _, _, _, _, _, _, _, _, a32, _⟩ := id d32
  have e := hfa.symm.trans (PySem.W.mg_of X G a49)
  cases e
  have z_len := PySem.W.mg_none_of X G zlen
  have z_tuple := PySem.W.mg_none_of X G ztuple
  have z_range := PySem.W.mg_none_of X G zrange
  have z_list := PySem.W.mg_none_of X G zlist
  have z_max := PySem.W.mg_none_of X G zmax
  have z_enumerate := PySem.W.mg_none_of X G zenumerate
  have z_abs := PySem.W.mg_none_of X G zabs
  have z_zip := PySem.W.mg_none_of X G zzip
  have z_isinstance := PySem.W.mg_none_of X G zisinstance
  have z_int := PySem.W.mg_none_of X G zint
  have z_bool := PySem.W.mg_none_of X G zbool
  have z_all := PySem.W.mg_none_of X G zall
  have z_reversed := PySem.W.mg_none_of X G zreversed
  have eNoPart := Yv aNoPart
  have eCourtError := Yv aCourtError
  have eNoFree := Yv aNoFree
  have eNoInverse := Yv aNoInverse
  have ep_times := Yv a22
  have eshared := Yv a32
  have xk_NoPart : V3 K (cA K "NoPart") := by rw [eNoPart]; exact xkNoPart
  have xm_NoPart : mg "NoPart" = some (.ref (cA K "NoPart")) := by rw [eNoPart]; exact PySem.W.mg_of X G aNoPart
  have xc_PRIME : ∃ u, mg "PRIME" = some u /\ RelV (V.int 2305843009213693951) u := ⟨_, PySem.W.mg_of X G xcPRIME, ⟨_, rfl⟩⟩
  have xm_p_times : mg "p_times" = some (.ref (cA K "p_times")) := by rw [ep_times]; exact PySem.W.mg_of X G a22
  have xm_shared : mg "shared" = some (.ref (cA K "shared")) := by rw [eshared]; exact PySem.W.mg_of X G a32
  have xi_NoPart : Zm K (cA K "NoPart") := by rw [eNoPart]; exact ⟨xigetattributeNoPart, xigetattrNoPart, xiclassNoPart, xiobjectNoPart, xiBaseExceptionNoPart⟩
  have xm_CourtError : mg "CourtError" = some (.ref (cA K "CourtError")) := by rw [eCourtError]; exact PySem.W.mg_of X G aCourtError
  have ki_NoPart_CourtError : PySem.W.kitOne K (.ref (cA K "NoPart")) (.ref (cA K "CourtError")) = some true := by rw [eNoPart]; rw [eCourtError]; exact kiNoPartCourtError
  have xm_NoFree : mg "NoFree" = some (.ref (cA K "NoFree")) := by rw [eNoFree]; exact PySem.W.mg_of X G aNoFree
  have ki_NoPart_NoFree : PySem.W.kitOne K (.ref (cA K "NoPart")) (.ref (cA K "NoFree")) = some false := by rw [eNoPart]; rw [eNoFree]; exact kiNoPartNoFree
  have xm_NoInverse : mg "NoInverse" = some (.ref (cA K "NoInverse")) := by rw [eNoInverse]; exact PySem.W.mg_of X G aNoInverse
  have ki_NoPart_NoInverse : PySem.W.kitOne K (.ref (cA K "NoPart")) (.ref (cA K "NoInverse")) = some false := by rw [eNoPart]; rw [eNoInverse]; exact kiNoPartNoInverse
  obtain ⟨_, _, D1⟩ := Cj X G d1 ["_law_script", "_law_k"] fun _ _ _ _ _ _ us hl => match us, hl with | [_, _], _ => rfl
  obtain ⟨_, _, D2⟩ := Cj X G d2 ["weights"] fun _ _ _ _ _ _ us hl => match us, hl with | [_], _ => rfl
  obtain ⟨_, _, D3⟩ := Cj X G d3 ["_law_cell", "_law_k"] fun _ _ _ _ _ _ us hl => match us, hl with | [_, _], _ => rfl
  obtain ⟨_, _, D4⟩ := Cj X G d4 ["_law_cell", "_law_many", "_law_base"] fun _ _ _ _ _ _ us hl => match us, hl with | [_, _, _], _ => rfl
  obtain ⟨_, _, D5⟩ := Cj X G d5 ["_law_cell", "_law_size"] fun _ _ _ _ _ _ us hl => match us, hl with | [_, _], _ => rfl
  obtain ⟨_, _, D6⟩ := Cj X G d6 ["_law_cell", "_law_size"] fun _ _ _ _ _ _ us hl => match us, hl with | [_, _], _ => rfl
  obtain ⟨_, _, D7⟩ := Cj X G d7 ["one"] fun _ _ _ _ _ _ us hl => match us, hl with | [_], _ => rfl
  obtain ⟨_, _, D8⟩ := Cj X G d8 ["one", "m"] fun _ _ _ _ _ _ us hl => match us, hl with | [_, _], _ => rfl
  obtain ⟨_, _, D9⟩ := Cj X G d9 ["one", "factor"] fun _ _ _ _ _ _ us hl => match us, hl with | [_, _], _ => rfl
  obtain ⟨_, _, D10⟩ := Cj X G d10 ["number", "m"] fun _ _ _ _ _ _ us hl => match us, hl with | [_, _], _ => rfl
  obtain ⟨_, _, D11⟩ := Cj X G d11 ["one", "t"] fun _ _ _ _ _ _ us hl => match us, hl with | [_, _], _ => rfl
  obtain ⟨_, _, D12⟩ := Cj X G d12 ["one", "other", "m"] fun _ _ _ _ _ _ us hl => match us, hl with | [_, _, _], _ => rfl
  obtain ⟨_, _, D13⟩ := Cj X G d13 ["one", "other", "m"] fun _ _ _ _ _ _ us hl => match us, hl with | [_, _, _], _ => rfl
  obtain ⟨_, _, D14⟩ := Cj X G d14 ["one", "other", "t"] fun _ _ _ _ _ _ us hl => match us, hl with | [_, _, _], _ => rfl
  obtain ⟨_, _, D15⟩ := Cj X G d15 ["one", "other"] fun _ _ _ _ _ _ us hl => match us, hl with | [_, _], _ => rfl
  obtain ⟨_, _, D16⟩ := Cj X G d16 ["one", "number"] fun _ _ _ _ _ _ us hl => match us, hl with | [_, _], _ => rfl
  obtain ⟨_, _, D17⟩ := Cj X G d17 ["one", "other"] fun _ _ _ _ _ _ us hl => match us, hl with | [_, _], _ => rfl
  obtain ⟨_, _, D18⟩ := Cj X G d18 ["some"] fun _ _ _ _ _ _ us hl => match us, hl with | [_], _ => rfl
  obtain ⟨_, _, D19⟩ := Cj X G d19 ["one"] fun _ _ _ _ _ _ us hl => match us, hl with | [_], _ => rfl
  obtain ⟨_, _, D20⟩ := Cj X G d20 ["one"] fun _ _ _ _ _ _ us hl => match us, hl with | [_], _ => rfl
  obtain ⟨_, _, D21⟩ := Cj X G d21 ["one"] fun _ _ _ _ _ _ us hl => match us, hl with | [_], _ => rfl
  obtain ⟨_, _, D22⟩ := Cj X G d22 ["one", "other"] fun _ _ _ _ _ _ us hl => match us, hl with | [_, _], _ => rfl
  obtain ⟨_, _, D23⟩ := Cj X G d23 ["start", "one", "many", "product"] fun _ _ _ _ _ _ us hl => match us, hl with | [_, _, _, _], _ => rfl
  obtain ⟨_, _, D24⟩ := Cj X G d24 ["one", "many"] fun _ _ _ _ _ _ us hl => match us, hl with | [_, _], _ => rfl
  obtain ⟨_, _, D25⟩ := Cj X G d25 ["number", "many"] fun _ _ _ _ _ _ us hl => match us, hl with | [_, _], _ => rfl
  obtain ⟨_, _, D26⟩ := Cj X G d26 ["one", "many"] fun _ _ _ _ _ _ us hl => match us, hl with | [_, _], _ => rfl
  obtain ⟨_, _, D27⟩ := Cj X G d27 ["one", "other"] fun _ _ _ _ _ _ us hl => match us, hl with | [_, _], _ => rfl
  obtain ⟨_, _, D28⟩ := Cj X G d28 ["one", "other"] fun _ _ _ _ _ _ us hl => match us, hl with | [_, _], _ => rfl
  obtain ⟨_, _, D29⟩ := Cj X G d29 ["one", "other"] fun _ _ _ _ _ _ us hl => match us, hl with | [_, _], _ => rfl
  obtain ⟨_, _, D30⟩ := Cj X G d30 ["first", "second", "known"] fun _ _ _ _ _ _ us hl => match us, hl with | [_, _, _], _ => rfl
  obtain ⟨_, _, D31⟩ := Cj X G d31 ["first", "second"] fun _ _ _ _ _ _ us hl => match us, hl with | [_, _], _ => rfl
  obtain ⟨_, _, D32⟩ := Cj X G d32 ["one", "other"] fun _ _ _ _ _ _ us hl => match us, hl with | [_, _], _ => rfl
  obtain ⟨_, _, D33⟩ := Cj X G d33 ["one", "other", "scaling"] fun _ _ _ _ _ _ us hl => match us, hl with | [_, _, _], _ => rfl
  obtain ⟨_, _, D34⟩ := Cj X G d34 ["one", "other"] fun _ _ _ _ _ _ us hl => match us, hl with | [_, _], _ => rfl
  obtain ⟨_, _, D35⟩ := Cj X G d35 ["p", "q"] fun _ _ _ _ _ _ us hl => match us, hl with | [_, _], _ => rfl
  obtain ⟨_, _, D36⟩ := Cj X G d36 ["_law_found", "_law_cell"] fun _ _ _ _ _ _ us hl => match us, hl with | [_, _], _ => rfl
  obtain ⟨_, _, D37⟩ := Cj X G d37 ["thing"] fun _ _ _ _ _ _ us hl => match us, hl with | [_], _ => rfl
  obtain ⟨_, _, D38⟩ := Cj X G d38 ["thing"] fun _ _ _ _ _ _ us hl => match us, hl with | [_], _ => rfl
  obtain ⟨_, _, D39⟩ := Cj X G d39 ["top", "bottom"] fun _ _ _ _ _ _ us hl => match us, hl with | [_, _], _ => rfl
  obtain ⟨_, _, D40⟩ := Cj X G d40 ["thing"] fun _ _ _ _ _ _ us hl => match us, hl with | [_], _ => rfl
  obtain ⟨_, _, D41⟩ := Cj X G d41 ["f", "g"] fun _ _ _ _ _ _ us hl => match us, hl with | [_, _], _ => rfl
  obtain ⟨_, _, D42⟩ := Cj X G d42 ["p", "q"] fun _ _ _ _ _ _ us hl => match us, hl with | [_, _], _ => rfl
  obtain ⟨_, _, D43⟩ := Cj X G d43 ["top", "bottom"] fun _ _ _ _ _ _ us hl => match us, hl with | [_, _], _ => rfl
  obtain ⟨_, _, D44⟩ := Cj X G d44 ["one", "other"] fun _ _ _ _ _ _ us hl => match us, hl with | [_, _], _ => rfl
  obtain ⟨_, _, D45⟩ := Cj X G d45 ["one", "point"] fun _ _ _ _ _ _ us hl => match us, hl with | [_, _], _ => rfl
  obtain ⟨_, _, D46⟩ := Cj X G d46 ["one", "point"] fun _ _ _ _ _ _ us hl => match us, hl with | [_, _], _ => rfl
  obtain ⟨_, _, D47⟩ := Cj X G d47 ["f", "r"] fun _ _ _ _ _ _ us hl => match us, hl with | [_, _], _ => rfl
  obtain ⟨_, _, D48⟩ := Cj X G d48 ["_law_p", "_law_deed"] fun _ _ _ _ _ _ us hl => match us, hl with | [_, _], _ => rfl
  have F49 := Aev (st := Tc) l49 c49 k49
  have D49 : Df K mg "law" Tc ["_law_script"] _ _ := ⟨F49, F49.binds (ps := ["_law_script"]) fun _ _ _ _ _ _ us hl => match us, hl with | [_], _ => rfl, PySem.W.mg_of X G a49⟩
  refine ⟨PySem.W.fnOf "law" "law" (Ml Tc) (Jk Tc) (Ag Tc) .none kV dc pm an cd ct, fun s v => .of_eq rfl, fun base _ _ => ?_⟩
  have C_q_cell_at := Vd (P := l.prog) (w := w) (base := base) D1 z_len
  have C_poly := Agn (P := l.prog) (w := w) (base := base) D2 z_len z_tuple
  have C_q_mixed := Yh (P := l.prog) (w := w) (base := base) D3
  have C_q_digits := W7 (P := l.prog) (w := w) (base := base) D4 z_range C_q_mixed
  have C_q_poly := Aal (P := l.prog) (w := w) (base := base) D5 C_poly C_q_digits
  have C_q_not_nought := Q5 (P := l.prog) (w := w) (base := base) D6 C_q_poly
  have C_degree := Abu (P := l.prog) (w := w) (base := base) D7 z_len
  have C_by_number := Vm (P := l.prog) (w := w) (base := base) D8 C_poly
  have C_scaled := Zv (P := l.prog) (w := w) (base := base) D9 z_tuple
  have CE_inverse_by := S9 (P := l.prog) (w := w) (base := base) D10 xk_NoPart xm_NoPart
  have C_inverse_by := CE_inverse_by.calm (Qp K)
  have C_single := Abo (P := l.prog) (w := w) (base := base) D11 C_by_number C_scaled C_inverse_by
  have CE_m_parted := Wn (P := l.prog) (w := w) (base := base) D12 z_list z_range z_max z_len z_enumerate xk_NoPart xm_NoPart CE_inverse_by C_by_number C_poly C_degree
  have C_m_parted := CE_m_parted.calm (T4 K)
  have C_m_rest := Ab5 (P := l.prog) (w := w) (base := base) D13 C_m_parted
  have C_m_shared := W6 (P := l.prog) (w := w) (base := base) D14 C_by_number C_single C_m_rest
  have C_surely_apart := P0 (P := l.prog) (w := w) (base := base) D15 xc_PRIME C_degree C_m_shared
  have C_shrunk := Abg (P := l.prog) (w := w) (base := base) D16 z_tuple
  have C_divisor := Y4 (P := l.prog) (w := w) (base := base) D17 z_abs
  have C_divisor_of := Uk (P := l.prog) (w := w) (base := base) D18 C_divisor
  have C_content := Y5 (P := l.prog) (w := w) (base := base) D19 C_divisor_of
  have C_unit := Ag0 (P := l.prog) (w := w) (base := base) D20 C_content
  have C_plain := Adg (P := l.prog) (w := w) (base := base) D21 C_shrunk C_unit
  have C_p_times := Y6 (P := l.prog) (w := w) (base := base) D22 z_enumerate z_tuple z_len
  have C_repeated := Ws (P := l.prog) (w := w) (base := base) D23 xm_p_times C_p_times
  have C_power := Ac6 (P := l.prog) (w := w) (base := base) D24 xm_p_times C_repeated
  have C_whole_power := Rz (P := l.prog) (w := w) (base := base) D25 C_power
  have C_raised := Ace (P := l.prog) (w := w) (base := base) D26
  have C_p_plus := Acf (P := l.prog) (w := w) (base := base) D27 z_list z_enumerate z_len C_poly
  have C_p_minus := Yb (P := l.prog) (w := w) (base := base) D28 C_p_plus C_scaled
  have C_scaled_division := Mz (P := l.prog) (w := w) (base := base) D29 z_range z_len C_raised C_p_plus C_p_minus C_degree C_poly C_scaled C_p_times
  have C_next_row := Wf (P := l.prog) (w := w) (base := base) D30 z_zip z_tuple C_whole_power C_scaled_division C_shrunk C_degree C_p_minus C_scaled C_p_times
  have C_last_row := W4 (P := l.prog) (w := w) (base := base) D31 C_degree C_next_row C_whole_power
  have C_shared := Acd (P := l.prog) (w := w) (base := base) D32 C_surely_apart C_plain C_last_row
  have CE_long_division := O8 (P := l.prog) (w := w) (base := base) D33 z_list z_range z_max z_len z_abs z_enumerate xk_NoPart xm_NoPart C_poly C_divisor C_degree
  have CE_whole_part := T9 (P := l.prog) (w := w) (base := base) D34 CE_long_division
  have CE_q_of := Af1 (P := l.prog) (w := w) (base := base) D35 xk_NoPart xm_NoPart C_shared CE_whole_part C_divisor_of C_shrunk
  have C_q_of := CE_q_of.calm (Aa3 K)
  have C_q_others := W2 (P := l.prog) (w := w) (base := base) D36 z_list C_scaled C_p_times
  have C_is_whole := Ww (P := l.prog) (w := w) (base := base) D37 z_isinstance z_int z_bool
  have C_is_poly := Zb (P := l.prog) (w := w) (base := base) D38 z_isinstance z_tuple z_all z_len C_is_whole
  have C_has_plain_weights := Kw (P := l.prog) (w := w) (base := base) D39 C_divisor_of
  have C_is_quotient := R4 (P := l.prog) (w := w) (base := base) D40 z_isinstance z_tuple z_len C_degree C_is_poly C_has_plain_weights C_shared
  have CE_q_over := Ab0 (P := l.prog) (w := w) (base := base) D41 CE_q_of C_p_times
  have CE_q_paper := Ze (P := l.prog) (w := w) (base := base) D42 CE_q_of
  have CE_fraction := Wr (P := l.prog) (w := w) (base := base) D43 xm_shared xk_NoPart xm_NoPart C_divisor
  have C_fraction := CE_fraction.calm (T6 K)
  have CE_over := Afj (P := l.prog) (w := w) (base := base) D44 CE_fraction
  have C_whole_value := Ru (P := l.prog) (w := w) (base := base) D45 z_reversed
  have C_value := Acv (P := l.prog) (w := w) (base := base) D46 C_fraction C_whole_value C_whole_power C_degree
  have CE_q_value := X7 (P := l.prog) (w := w) (base := base) D47 CE_over C_value
  have C_q_refused := U3 (P := l.prog) (w := w) (base := base) D48 z_isinstance xk_NoPart xm_NoPart xi_NoPart xm_CourtError ki_NoPart_CourtError xm_NoFree ki_NoPart_NoFree xm_NoInverse ki_NoPart_NoInverse CE_q_of CE_q_over C_q_of CE_q_paper CE_q_value
  exact Ahl (P := l.prog) (w := w) (base := base) D49 z_isinstance z_tuple z_len z_range C_q_cell_at C_q_poly C_q_not_nought C_q_of C_q_others C_is_quotient C_p_times C_scaled C_q_refused
theorem walk {l : PySem.W.OpenLaw} {q : Program} {loose : List Str} {XP : (Str -> Option Value) -> Heap -> Prop} {YP : World -> Heap -> Prop} {d : DefRec} {K : Params -> PySem.W.Frag} (hn : l.most = some 63) (hdf : d.params.defaults = [])
    (hY : ∀ (w : World) (h : Heap), YP w h -> (K w.params).In h)
    (F : ∀ (w : World) (mg : Str -> Option Value) (fa : Addr) (h : Heap), (K w.params).In h -> h.Ns mainGlobals mg -> mg d.name = some (.ref fa) ->
      ∃ fd : FuncData, (∀ (s : Shared) (u : Value), BindsTo s fd ⟨[u], []⟩ [("_law_script", u)]) /\ ∀ base : Heap, (K w.params).In base -> base.Ns mainGlobals mg -> Rx l.prog w (K w.params) mg base CX0 13 fa fd ["_law_script"] (Adc (K w.params))) :
    PySem.W.WalkO q loose XP YP l.row.toRowW d [] (fun f vs => PySem.call f vs) :=
  L2.Aaq (n := 63) (k := 13) (x := "_law_script") (CX := fun _ => CX0) (sp := fun w => Adc (K w.params)) hn (by decide) hdf ⟨rfl, by decide, by decide⟩ hY F (fun _ _ a ns hl _ hS => ⟨a, ns, rfl, hS, hl, fun _ => rfl⟩) fun _ _ _ _ _ z => z
end Z
namespace PySem.W.Fast
def tw1005068489878701855 := ()
def tw10175610138931316015 := ()
def tw10180397165527451798 := ()
def tw10225293025371127295 := ()
def tw10267948478144956184 := ()
def tw10281267958300472821 := ()
def tw10283687473169727783 := ()
def tw10345104595469612898 := ()
def tw10348426191949770575 := ()
def tw10463121432507900894 := ()
def tw1049844797319030102 := ()
def tw105120677685222786 := ()
def tw10535112199973198734 := ()
def tw10545425783319053732 := ()
def tw1055586645330159800 := ()
def tw10615543338074201843 := ()
def tw10658249151407241919 := ()
def tw10688799187175416572 := ()
def tw10765995095377095090 := ()
def tw10818916222412252901 := ()
def tw10823633065422783274 := ()
def tw10852935352091672015 := ()
def tw10887789829542600431 := ()
def tw10936547065332474747 := ()
def tw11005144526810654558 := ()
def tw11033731818441296036 := ()
def tw11137498057801116633 := ()
def tw11184727623089749597 := ()
def tw11216496128351928423 := ()
def tw11275183375708644308 := ()
def tw11297220411719792550 := ()
def tw11363807039621695137 := ()
def tw11453649494234464671 := ()
def tw11614620967287433273 := ()
def tw11660331503740836350 := ()
def tw11703897510059976107 := ()
def tw11723082127568823251 := ()
def tw11745965209707514383 := ()
def tw11747505384666910443 := ()
def tw11792998834694585583 := ()
def tw11798441797387697706 := ()
def tw11847775879100572937 := ()
def tw11929950729642073180 := ()
def tw12092100991572139722 := ()
def tw12139937356731341426 := ()
def tw12173766276152761482 := ()
def tw12176344493986220492 := ()
def tw12212322439219999027 := ()
def tw12248572277568247680 := ()
def tw12272659436515827566 := ()
def tw12302847946966277825 := ()
def tw12333745179192832192 := ()
def tw12340660544969021183 := ()
def tw12358768728550246381 := ()
def tw1239061886449854963 := ()
def tw12466273085878469286 := ()
def tw12480546750576651381 := ()
def tw12597048980271754220 := ()
def tw12603313222708153767 := ()
def tw12639495617642391644 := ()
def tw12709257865509930133 := ()
def tw12828874685798313515 := ()
def tw12877668618893063540 := ()
def tw13000171154969945456 := ()
def tw13132681647396475936 := ()
def tw13205415770572604283 := ()
def tw13231234750259864534 := ()
def tw13268701232941350801 := ()
def tw13320101044086069806 := ()
def tw13388084080571555207 := ()
def tw13402000749059239583 := ()
def tw13574346822626352707 := ()
def tw13592406636319680836 := ()
def tw1359897496137676554 := ()
def tw13619987467040378136 := ()
def tw13643845508089063189 := ()
def tw13667046985384199622 := ()
def tw13725328494417435521 := ()
def tw13810518914262281802 := ()
def tw13994379977498577227 := ()
def tw14001528404872445496 := ()
def tw14007618256267380141 := ()
def tw14008209134667795667 := ()
def tw14044895253090903219 := ()
def tw14070603097999452689 := ()
def tw1416042471101248200 := ()
def tw14204260874380951899 := ()
def tw1428045962762093165 := ()
def tw14335573287472518900 := ()
def tw14335971356660724935 := ()
def tw14384707438195717513 := ()
def tw1440788730389490167 := ()
def tw14409515407917682045 := ()
def tw14444454553000172762 := ()
def tw14478499077186489966 := ()
def tw14479095719249095798 := ()
def tw14606350024664310476 := ()
def tw14649832945644999818 := ()
def tw14658665250094420954 := ()
def tw14681158860438354715 := ()
def tw1468402818169170736 := ()
def tw14748058422220965840 := ()
def tw14797937128358652085 := ()
def tw14812276235187862965 := ()
def tw14829485236829443824 := ()
def tw1488296441042651728 := ()
def tw14912476349826225755 := ()
def tw14950836944375981888 := ()
def tw14956020835496193087 := ()
def tw14981954034604874394 := ()
def tw14996517020468401075 := ()
def tw15046151356565054715 := ()
def tw15056056778120800588 := ()
def tw15067983476262939840 := ()
def tw15091374003386412124 := ()
def tw15093969160607525557 := ()
def tw15188888715996639134 := ()
def tw15197989405810402151 := ()
def tw15304435015785121164 := ()
def tw1537925999963775927 := ()
def tw15429725710461677712 := ()
def tw15571857386750152796 := ()
def tw15605071890003442337 := ()
def tw156443701806760151 := ()
def tw15645740099778880876 := ()
def tw15784957259443401726 := ()
def tw15845185426856313382 := ()
def tw15865046393732765168 := ()
def tw15945839833247583506 := ()
def tw15986835327214481190 := ()
def tw16098335518385556508 := ()
def tw16206331406276740140 := ()
def tw16210523043573448204 := ()
def tw1622641028298642419 := ()
def tw16260084317105275788 := ()
def tw16362756571575688036 := ()
def tw1639886936011338863 := ()
def tw16456522027502387462 := ()
def tw1646779806669768895 := ()
def tw16485270426539814218 := ()
def tw1650440184180340295 := ()
def tw16522811027697601969 := ()
def tw16625608725999361443 := ()
def tw16629954259206238249 := ()
def tw16660394702233741768 := ()
def tw16689656147778017752 := ()
def tw16810793832182406614 := ()
def tw168736294256879454 := ()
def tw16890458926992292679 := ()
def tw16894971661137634362 := ()
def tw16909774692546265863 := ()
def tw16999478251190011126 := ()
def tw17003083737011315661 := ()
def tw17026883371415731097 := ()
def tw17072697371378517521 := ()
def tw17141621741686461331 := ()
def tw17247583223629738951 := ()
def tw17285891049064097041 := ()
def tw17345781777162471209 := ()
def tw17419418234046972231 := ()
def tw17447740285142930032 := ()
def tw17531815011892080033 := ()
def tw17533991677777220031 := ()
def tw1755224150972909063 := ()
def tw17566787622634050080 := ()
def tw17586823629069265889 := ()
def tw17596595565326963067 := ()
def tw17602958978642426797 := ()
def tw17612573566270792149 := ()
def tw17621189000500210558 := ()
def tw17641534033380389749 := ()
def tw17678497670511884686 := ()
def tw17725963272801797395 := ()
def tw1795665376334636919 := ()
def tw17980541401701099476 := ()
def tw1804236336292177169 := ()
def tw18064917735829966759 := ()
def tw18080904785086637310 := ()
def tw18081641239955641739 := ()
def tw18131762104590150563 := ()
def tw18198691825240655946 := ()
def tw18217333137133677033 := ()
def tw18388023839546669781 := ()
def tw18411165093600144344 := ()
def tw1919588898934040467 := ()
def tw1948663350047061416 := ()
def tw2008038310925270713 := ()
def tw2026119821762209281 := ()
def tw2041168380438154546 := ()
def tw206371838490301258 := ()
def tw209095302951477731 := ()
def tw2099773369607339355 := ()
def tw2101053802901703031 := ()
def tw2150668594157106488 := ()
def tw2171501423439908168 := ()
def tw2206424804209170457 := ()
def tw2265387739551832036 := ()
def tw2354027837520318399 := ()
def tw2383939140691731760 := ()
def tw2397120735062788213 := ()
def tw2405678688118808477 := ()
def tw2436911635036593839 := ()
def tw2471455820641963394 := ()
def tw2475997827043939638 := ()
def tw2514048227834581694 := ()
def tw2517696883701531011 := ()
def tw2632422245758056560 := ()
def tw2726939604265124034 := ()
def tw2730862474730947248 := ()
def tw2797561839726548958 := ()
def tw2864310912081653145 := ()
def tw2935364313379204727 := ()
def tw2969291519201385450 := ()
def tw2997995373051914621 := ()
def tw3021362614078827608 := ()
def tw3050370082604749327 := ()
def tw3155922652065630230 := ()
def tw3239161756671450946 := ()
def tw3286064445520392221 := ()
def tw3291370531291601485 := ()
def tw3291953502372319210 := ()
def tw3355212078112232729 := ()
def tw3361608212771823414 := ()
def tw3418600482456619182 := ()
def tw3492392956330860209 := ()
def tw3522657144448284278 := ()
def tw3596325161298982919 := ()
def tw3686325289199750033 := ()
def tw391390222866010373 := ()
def tw4135301337138561989 := ()
def tw4168191839894925002 := ()
def tw4186387809578333914 := ()
def tw4193599309106715278 := ()
def tw4202670100602570226 := ()
def tw421512037836331295 := ()
def tw4314810385510122971 := ()
def tw4377271970200100190 := ()
def tw4377655589736733662 := ()
def tw4413261883093477684 := ()
def tw4548059742575158018 := ()
def tw4550300970198921349 := ()
def tw4573268659572796414 := ()
def tw4594304133618867964 := ()
def tw4600441096964022422 := ()
def tw4609771004063317722 := ()
def tw4633754646185707097 := ()
def tw4862555816712322278 := ()
def tw4875478088181843589 := ()
def tw4881679163703894956 := ()
def tw4934543955133907568 := ()
def tw4957788172032029507 := ()
def tw4960634871164698076 := ()
def tw5006947680690238101 := ()
def tw5097155054421522318 := ()
def tw511521683465039756 := ()
def tw5132817942042619279 := ()
def tw5269171721799102205 := ()
def tw5277578838078906027 := ()
def tw5298798326285438005 := ()
def tw5374000617844817456 := ()
def tw5375553349514324145 := ()
def tw5390104136124931439 := ()
def tw5394007063008155734 := ()
def tw5513243887752620398 := ()
def tw5534003457133135808 := ()
def tw5622257267906770250 := ()
def tw5786074311925569860 := ()
def tw584440604331813012 := ()
def tw5846969031257604963 := ()
def tw5846973541789338829 := ()
def tw5950978515347348576 := ()
def tw5973862325503584736 := ()
def tw6053695599110531534 := ()
def tw6064135591571675626 := ()
def tw616057066149803833 := ()
def tw6186099507192169734 := ()
def tw6193953061860694598 := ()
def tw6293282462749838707 := ()
def tw6329779526190976595 := ()
def tw6407258709252899699 := ()
def tw6500164853999576477 := ()
def tw6561152112234166846 := ()
def tw6655266022269479611 := ()
def tw6711327203150135269 := ()
def tw6741448327738073328 := ()
def tw6807774443090184644 := ()
def tw6908311556018108696 := ()
def tw6911228129255115352 := ()
def tw6945665367980596916 := ()
def tw699138914702456940 := ()
def tw7036005064284076268 := ()
def tw7052656733158328544 := ()
def tw7108052145125999306 := ()
def tw7166949855740036941 := ()
def tw7213708236572698623 := ()
def tw7230820577961693433 := ()
def tw7242580171121496953 := ()
def tw7280853909125295511 := ()
def tw7346882511405535727 := ()
def tw735435231471731024 := ()
def tw7509877401720734514 := ()
def tw7536437238866686306 := ()
def tw7588395977635329462 := ()
def tw7594067882402737950 := ()
def tw763451137670820081 := ()
def tw7637109330070730666 := ()
def tw7648229842263442239 := ()
def tw7650140311970325954 := ()
def tw7668523267417027761 := ()
def tw7700589132610106113 := ()
def tw7742998084969967197 := ()
def tw7765030867677399784 := ()
def tw7811932399624753976 := ()
def tw7829336666967362207 := ()
def tw787749405909844870 := ()
def tw790686408882942220 := ()
def tw7939805366041967652 := ()
def tw7940474473215504210 := ()
def tw7975944627304508768 := ()
def tw8020939872512566137 := ()
def tw808459873448327445 := ()
def tw8119525753617402700 := ()
def tw8131952482603226956 := ()
def tw817935205035956864 := ()
def tw8212776758874740497 := ()
def tw8326841547260965461 := ()
def tw8368543771150058201 := ()
def tw8432666606067317015 := ()
def tw8469550622273094177 := ()
def tw8479948272415957200 := ()
def tw8485759302500874976 := ()
def tw8581871390815398903 := ()
def tw8582799086065919847 := ()
def tw8600424289522315425 := ()
def tw864249873786971326 := ()
def tw8648491290734424136 := ()
def tw8649417949576497425 := ()
def tw8662454845678223299 := ()
def tw8672229852903897097 := ()
def tw8704507314961927053 := ()
def tw8751992301083853614 := ()
def tw879955696112501067 := ()
def tw8811361113317975283 := ()
def tw8870778816856933978 := ()
def tw9028919011404649310 := ()
def tw9051075848259419109 := ()
def tw9067865085098892783 := ()
def tw9167678879890973675 := ()
def tw9169257905452008518 := ()
def tw9192493549559878197 := ()
def tw9228630767605232631 := ()
def tw9259326193733070627 := ()
def tw9466372895399992072 := ()
def tw9548572892383708886 := ()
def tw9578909238928140937 := ()
def tw9597196034843383238 := ()
def tw9602975707178090431 := ()
def tw9660571765682498276 := ()
def tw9703806596859557068 := ()
def tw9747541976257588060 := ()
def tw9759602349987038980 := ()
def tw9782852112255547299 := ()
def tw9816382240017213560 := ()
def tw9829797333731281455 := ()
def tw9835903229257936039 := ()
def tw9954362642981190974 := ()
def tw9973821267868923946 := ()
end PySem.W.Fast
open PySem PySem.W PyProof.Rows
set_option maxRecDepth 100000 in
set_option maxHeartbeats 0 in
theorem PySem.Challenge.cw_rootcourt_k61_one_plain_form_holds : PySem.Challenge.rw_rootcourt_k61_one_plain_form.Holds := by
  w_on; o_law; k_head; (case hw => w_witness2)
  k_fill
  refine Z.walk (l := PySem.Challenge.rw_rootcourt_k61_one_plain_form) rfl rfl (fun w h Y => PySem.W.kIn_of Y) ?F
  case F =>
    intro w mg fa h KX G hmg
    refine' Z.all_mk KX G hmg ?d1 ?d2 ?d3 ?d4 ?d5 ?d6 ?d7 ?d8 ?d9 ?d10 ?d11 ?d12 ?d13 ?d14 ?d15 ?d16 ?d17 ?d18 ?d19 ?d20 ?d21 ?d22 ?d23 ?d24 ?d25 ?d26 ?d27 ?d28 ?d29 ?d30 ?d31 ?d32 ?d33 ?d34 ?d35 ?d36 ?d37 ?d38 ?d39 ?d40 ?d41 ?d42 ?d43 ?d44 ?d45 ?d46 ?d47 ?d48 ?d49 ?aNoPart ?aCourtError ?aNoFree ?aNoInverse ?xkNoPart ?xcPRIME ?xigetattributeNoPart ?xigetattrNoPart ?xiclassNoPart ?xiobjectNoPart ?xiBaseExceptionNoPart ?kiNoPartCourtError ?kiNoPartNoFree ?kiNoPartNoInverse ?zlen ?ztuple ?zrange ?zlist ?zmax ?zenumerate ?zabs ?zzip ?zisinstance ?zint ?zbool ?zall ?zreversed
    (case aNoPart => k_is); (case aCourtError => k_is); (case aNoFree => k_is); (case aNoInverse => k_is); (case xkNoPart => k_exc); (case xcPRIME => k_is); (case xigetattributeNoPart => k_is); (case xigetattrNoPart => k_is); (case xiclassNoPart => k_is); (case xiobjectNoPart => k_is); (case xiBaseExceptionNoPart => k_is); (case kiNoPartCourtError => kit_is); (case kiNoPartNoFree => kit_is); (case kiNoPartNoInverse => kit_is)
    all_goals first | k_is | exact ⟨_, _, _, _, _, _, _, _, _, _, by k_is, by k_is, by k_is, by k_is⟩
