import PyProof.Rows.All
import Wide.All
import OpenK.AllK
import Wide.FinOn
import PySem.Challenge.RW_loosemarks_k10_moved
import HandS.CallLocal
import HandS.Conv
import HandS.Deep
import HandS.Defaults
import HandS.EndTab
import HandS.Evl
import HandS.ExcIs
import HandS.ForExc
import HandS.ForMost
import HandS.IsInst
import HandS.Iter
import HandS.NestedK
import HandS.NoneIn
import HandS.Rev
import HandS.RevRange
import HandS.SetBool
import HandS.SetFor
import HandS.SortInts
import HandS.SortKw
import HandS.Steps
import HandS.Strs
import HandS.Style
import HandS.TupAny
import HandS.TupMul
import HandS.Walk
import HandS.Wide
import HandS.Zip
import KE.DatumOrd
import KE.KItemsList
import PyProof.InstEq
import PyProof.TypeEq
set_option Elab.async false
set_option linter.all false
set_option maxRecDepth 100000
set_option maxHeartbeats 2000000
/-! list(zip(t, u)) of two tuples: every pair is a new tuple. -/
namespace LmZip
open PySem PySem.Spec PyProof.Rows RZ

/-- the zip object that has handed out the pair at a, which still lives -/
abbrev ZOwn (h : Heap) (z TI TO a : Addr) (f : Bool) : Prop :=
  h.get? z = some { cls := .type "zip", dict := none, data := .fields #[rawInt a, .bool f, .bool false, .ref TI, .ref TO], slots := #[] }

section
variable {prog : Program} {w : World} {A : Around} {E : Value → Shared → Prop} {s : Shared}

/-- the look whether the pair may be taken again: it may not -/
theorem not_free {z TI TO a : Addr} {f : Bool} {oa : Obj} {Q : Bool → Shared → Prop} (hz : ZOwn s.heap z TI TO a f) (ha : s.heap.get? a = some oa)
    (hQ : ∀ h', ZOwn h' z TI TO a true → Heap.SameBut z s.heap h' → Q false { s with heap := h' }) :
    wpAny (model prog w) A (Builtin.SmallTypes.ownedTupleIsFree (.ref z)) Q E s := by
  obtain ⟨hp, g, dr, tk, os⟩ := s
  unfold Builtin.SmallTypes.ownedTupleIsFree
  refine wpAny_bind (wpAny_field hz rfl (x := rawInt a) rfl ?_)
  show wpAny _ _ (loadIfAlive ((a : Int).toNat) >>= _) _ _ _
  rw [Int.toNat_natCast]
  refine wpAny_bind (PySem.W.kdx_alive ha ?_)
  simp only [Option.isNone_some, Bool.false_eq_true, if_false]
  refine wpAny_bind (wpAny_field hz rfl (x := .bool f) rfl ?_)
  cases f with
  | true =>
    rw [if_neg (show ¬ ((Value.bool true != Value.bool true) = true) by decide)]
    exact wpAny_bind (wpAny_pure (wpAny_pure (hQ hp hz (Heap.SameBut.refl _ _))))
  | false =>
    rw [if_pos (show (Value.bool false != Value.bool true) = true by decide)]
    refine wpAny_bind (wpAny_setField_rec hz (by simp) fun h3 e3 s3 => ?_)
    exact wpAny_pure (hQ h3 e3 s3)

/-- a further pair, while the first one lives -/
theorem more {z TI TO i1 i2 l1 l2 a : Addr} {f : Bool} {oa : Obj} {k1 k2 : Nat} {xs ys : Array Value} {x y : Value} {Q : Option Value → Shared → Prop} (D : ZipApart z TI TO i1 i2 l1 l2)
    (hz : ZOwn s.heap z TI TO a f) (ha : s.heap.get? a = some oa) (hTI : IsPair s.heap TI (.ref i1) (.ref i2))
    (h1 : s.heap.IsTupleIter i1 l1 k1) (h2 : s.heap.IsTupleIter i2 l2 k2) (hl1 : s.heap.IsTuple l1 xs) (hl2 : s.heap.IsTuple l2 ys) (hx : xs[k1]? = some x) (hy : ys[k2]? = some y)
    (hQ : ∀ h', ZOwn h' z TI TO a true → h'.IsTupleIter i1 l1 (k1 + 1) → h'.IsTupleIter i2 l2 (k2 + 1) → IsPair h' s.heap.objs.size x y → h'.objs.size = s.heap.objs.size + 1 →
      (∀ c o, c ≠ z → c ≠ i1 → c ≠ i2 → s.heap.get? c = some o → h'.get? c = some o) → Q (some (.ref s.heap.objs.size)) { s with heap := h' }) :
    wpAny (model prog w) A (pyNext (.ref z)) Q E s := by
  have hT : s.TypeIs (.ref z) "zip" := ⟨_, hz, rfl⟩
  unfold pyNext
  refine wpAny_bind (wpAny_attempt (wpAny_callSpecial?_slot (name := Str.ofString "__next__") hT F.slot_zip_next
    (wpAny_call_entry F.slot_zip_next hT F.entry_zip_next ?_ (F.args_zip_next_1 _))))
  show wpAny _ _ (field (.ref z) 2 >>= _) _ _ _
  refine wpAny_bind (wpAny_field hz rfl (x := .bool false) rfl ?_)
  show wpAny _ _ (field (.ref z) 3 >>= _) _ _ _
  refine wpAny_bind (wpAny_field hz rfl (x := .ref TI) rfl ?_)
  refine wpAny_bind (wpAny_seqItems hTI rfl ?_)
  show wpAny _ _ (Builtin.SmallTypes.ownedTupleIsFree (.ref z) >>= _) _ _ _
  refine wpAny_bind (not_free hz ha fun ha1 hz1 sb1 => ?_)
  simp only [Bool.false_eq_true, if_false]
  have eIt : ([Value.ref i1, Value.ref i2] : List Value).toArray = #[Value.ref i1, Value.ref i2] := rfl
  rw [← eIt, List.forIn_toArray]
  simp only [List.forIn_cons, List.forIn_nil]
  refine wpAny_bind (wpAny_bind (wpAny_bind (wpAny_holding ?_)))
  show wpAny _ _ (Builtin.SmallTypes.nextOf (.ref i1) >>= _) _ _ _
  refine wpAny_bind (nextOf_tuple_item (h1.extBut sb1.extBut D.i1z) (hl1.extBut sb1.extBut D.l1z) hx fun ha2 h1b sb2 => wpAny_pure ?_)
  refine wpAny_pure ?_
  refine wpAny_bind (wpAny_bind (wpAny_holding ?_))
  show wpAny _ _ (Builtin.SmallTypes.nextOf (.ref i2) >>= _) _ _ _
  refine wpAny_bind (nextOf_tuple_item ((h2.extBut sb1.extBut D.i2z).extBut sb2.extBut D.i12.symm) ((hl2.extBut sb1.extBut D.l2z).extBut sb2.extBut D.l2i1) hy fun ha3 h2b sb3 => wpAny_pure ?_)
  refine wpAny_pure ?_
  refine wpAny_pure ?_
  show wpAny _ _ (newTuple [x, y] >>= _) _ _ _
  refine wpAny_bind (wpAny_newTuple ?_)
  have up : ∀ c o, c ≠ z → c ≠ i1 → c ≠ i2 → s.heap.get? c = some o → ha3.get? c = some o := fun c o n1 n2 n3 e =>
    sb3.extBut c o n3 (sb2.extBut c o n2 (sb1.extBut c o n1 e))
  have zs : ha3.objs.size = s.heap.objs.size := by
    rw [sb3.1]
    show ha2.objs.size = _
    rw [sb2.1]
    exact sb1.1
  have hz3 : ZOwn ha3 z TI TO a true := sb3.extBut _ _ D.i2z.symm (sb2.extBut _ _ D.i1z.symm hz1)
  have n1 : (ha3.push { cls := .type "tuple", data := .seq #[x, y] }).get? ha3.objs.size = some { cls := .type "tuple", data := .seq #[x, y] } := Heap.get?_push_size _ rfl
  refine wpAny_pure ⟨_, rfl, wpAny_pure ?_⟩
  show Q (some (.ref ha3.objs.size)) _
  rw [zs]
  rw [zs] at n1
  refine hQ _ (Heap.get?_push_of_some _ hz3) ?_ ?_ n1 ?_ fun c o e1 e2 e3 e => Heap.get?_push_of_some _ (up c o e1 e2 e3 e)
  · exact (h1b.extBut sb3.extBut D.i12).at fun o e => Heap.get?_push_of_some _ e
  · exact h2b.at fun o e => Heap.get?_push_of_some _ e
  · rw [Heap.size_push, zs]
/-- the end, while the first pair lives -/
theorem last {z TI TO i1 i2 l1 l2 a : Addr} {f : Bool} {oa : Obj} {k1 k2 : Nat} {xs ys : Array Value} {Q : Option Value → Shared → Prop} (hh : A.handled = none) (D : ZipApart z TI TO i1 i2 l1 l2)
    (hz : ZOwn s.heap z TI TO a f) (ha : s.heap.get? a = some oa) (hTI : IsPair s.heap TI (.ref i1) (.ref i2))
    (h1 : s.heap.IsTupleIter i1 l1 k1) (h2 : s.heap.IsTupleIter i2 l2 k2) (hl1 : s.heap.IsTuple l1 xs) (hl2 : s.heap.IsTuple l2 ys) (hend : xs[k1]? = none ∨ ys[k2]? = none)
    (hQ : ∀ h', (∀ c o, c ≠ z → c ≠ i1 → c ≠ i2 → s.heap.get? c = some o → h'.get? c = some o) → Q none { s with heap := h' }) :
    wpAny (model prog w) A (pyNext (.ref z)) Q E s := by
  have hT : s.TypeIs (.ref z) "zip" := ⟨_, hz, rfl⟩
  have fin : ∀ (h' : Heap) (e : Addr), (∃ o, h'.get? e = some o ∧ o.cls = .type "StopIteration") → (∀ c o, c ≠ z → c ≠ i1 → c ≠ i2 → s.heap.get? c = some o → h'.get? c = some o) →
      wpAny (model prog w) A (do let b ← isInstance (.ref e) (Value.type "StopIteration"); if b = true then pure none else throw (.ref e)) Q E { s with heap := h' } := fun h' e ⟨o, ho, hc⟩ k =>
    wpAny_bind (wpAny_isInstance (T := "StopIteration") (b := true) ⟨o, ho, hc⟩ isSubtype_stop (wpAny_pure (hQ h' k)))
  unfold pyNext
  refine wpAny_bind (wpAny_attempt (wpAny_callSpecial?_slot (name := Str.ofString "__next__") hT F.slot_zip_next
    (wpAny_call_entry F.slot_zip_next hT F.entry_zip_next ?_ (F.args_zip_next_1 _))))
  show wpAny _ _ (field (.ref z) 2 >>= _) _ _ _
  refine wpAny_bind (wpAny_field hz rfl (x := .bool false) rfl ?_)
  show wpAny _ _ (field (.ref z) 3 >>= _) _ _ _
  refine wpAny_bind (wpAny_field hz rfl (x := .ref TI) rfl ?_)
  refine wpAny_bind (wpAny_seqItems hTI rfl ?_)
  show wpAny _ _ (Builtin.SmallTypes.ownedTupleIsFree (.ref z) >>= _) _ _ _
  refine wpAny_bind (not_free hz ha fun ha1 hz1 sb1 => ?_)
  simp only [Bool.false_eq_true, if_false]
  have eIt : ([Value.ref i1, Value.ref i2] : List Value).toArray = #[Value.ref i1, Value.ref i2] := rfl
  rw [← eIt, List.forIn_toArray]
  simp only [List.forIn_cons, List.forIn_nil]
  refine wpAny_bind (wpAny_bind (wpAny_bind (wpAny_holding ?_)))
  show wpAny _ _ (Builtin.SmallTypes.nextOf (.ref i1) >>= _) _ _ _
  cases hx : xs[k1]? with
  | none =>
    refine wpAny_bind (nextOf_tuple_end hh (h1.extBut sb1.extBut D.i1z) (hl1.extBut sb1.extBut D.l1z) hx fun ha2 e k2 he => ?_)
    exact fin ha2 e he fun c o n1 n2 n3 g => k2 c o n2 (sb1.extBut c o n1 g)
  | some x =>
    have hy : ys[k2]? = none := by
      rcases hend with q | q
      · rw [hx] at q
        cases q
      · exact q
    refine wpAny_bind (nextOf_tuple_item (h1.extBut sb1.extBut D.i1z) (hl1.extBut sb1.extBut D.l1z) hx fun ha2 h1b sb2 => wpAny_pure ?_)
    refine wpAny_pure ?_
    refine wpAny_bind (wpAny_bind (wpAny_holding ?_))
    show wpAny _ _ (Builtin.SmallTypes.nextOf (.ref i2) >>= _) _ _ _
    refine wpAny_bind (nextOf_tuple_end hh ((h2.extBut sb1.extBut D.i2z).extBut sb2.extBut D.i12.symm) ((hl2.extBut sb1.extBut D.l2z).extBut sb2.extBut D.l2i1) hy fun ha3 e k3 he => ?_)
    exact fin ha3 e he fun c o n1 n2 n3 g => k3 c o n3 (sb2.extBut c o n2 (sb1.extBut c o n1 g))
end

/-- the zip z in the midst of its walk (turn i), a list growing at S -/
structure Mid (h : Heap) (z TI TO i1 i2 l1 l2 S : Addr) (xs ys : Array Value) (i : Nat) : Prop where
  zip : (IsZip h z TI TO .none ∧ ∃ a b, IsPair h TO a b) ∨ ∃ (a : Addr) (f : Bool) (oa : Obj), ZOwn h z TI TO a f ∧ h.get? a = some oa ∧ a ≠ z ∧ a ≠ i1 ∧ a ≠ i2 ∧ a ≠ S
  its : IsPair h TI (.ref i1) (.ref i2)
  one : h.IsTupleIter i1 l1 i
  two : h.IsTupleIter i2 l2 i
  fst : h.IsTuple l1 xs
  snd : h.IsTuple l2 ys
/-- S is none of the zip's own -/
structure Off (z TI TO i1 i2 l1 l2 S : Addr) : Prop where
  nz : z ≠ S
  nTI : TI ≠ S
  nTO : TO ≠ S
  n1 : i1 ≠ S
  n2 : i2 ≠ S
  m1 : l1 ≠ S
  m2 : l2 ≠ S
theorem tup_keep {h h' : Heap} {l : Addr} {xs : Array Value} (p : h.IsTuple l xs) (k : ∀ o, h.get? l = some o → h'.get? l = some o) : h'.IsTuple l xs := by
  obtain ⟨o, e, r⟩ := p
  exact ⟨o, k o e, r⟩
theorem Mid.keep {h h' : Heap} {z TI TO i1 i2 l1 l2 S : Addr} {xs ys : Array Value} {i : Nat} (m : Mid h z TI TO i1 i2 l1 l2 S xs ys i) (f : Off z TI TO i1 i2 l1 l2 S) (k : ∀ b o, b ≠ S → h.get? b = some o → h'.get? b = some o) :
    Mid h' z TI TO i1 i2 l1 l2 S xs ys i where
  zip := by
    rcases m.zip with ⟨e, a, b, p⟩ | ⟨a, g, oa, e, ea, n1, n2, n3, n4⟩
    · exact .inl ⟨k _ _ f.nz e, a, b, k _ _ f.nTO p⟩
    · exact .inr ⟨a, g, oa, k _ _ f.nz e, k _ _ n4 ea, n1, n2, n3, n4⟩
  its := k _ _ f.nTI m.its
  one := m.one.at fun o e => k _ o f.n1 e
  two := m.two.at fun o e => k _ o f.n2 e
  fst := tup_keep m.fst fun o e => k _ o f.m1 e
  snd := tup_keep m.snd fun o e => k _ o f.m2 e
/-- the pairs made so far, in their places -/
structure Made (h : Heap) (lo : Addr) (xs ys : Array Value) (as : List Addr) : Prop where
  rise : as.Pairwise (· < ·)
  above : ∀ a ∈ as, lo < a
  pair : ∀ (j : Nat) (a : Addr), as[j]? = some a → ∃ x y, xs[j]? = some x ∧ ys[j]? = some y ∧ IsPair h a x y
theorem Made.there {h : Heap} {lo : Addr} {xs ys : Array Value} {as : List Addr} (g : Made h lo xs ys as) {a : Addr} (ha : a ∈ as) : a < h.objs.size := by
  obtain ⟨j, e⟩ := List.mem_iff_getElem?.mp ha
  obtain ⟨_, _, _, _, p⟩ := g.pair j a e
  exact Heap.lt_size p
theorem Made.keep {h h' : Heap} {lo : Addr} {xs ys : Array Value} {as : List Addr} (g : Made h lo xs ys as) (k : ∀ b o, lo < b → h.get? b = some o → h'.get? b = some o) : Made h' lo xs ys as :=
  ⟨g.rise, g.above, fun j a e => by
    obtain ⟨x, y, e1, e2, e3⟩ := g.pair j a e
    exact ⟨x, y, e1, e2, k a _ (g.above a (List.mem_of_getElem? e)) e3⟩⟩
theorem Made.snoc {h : Heap} {lo : Addr} {xs ys : Array Value} {as : List Addr} (g : Made h lo xs ys as) {p : Addr} {x y : Value} (hl : lo < p) (hp : ∀ a ∈ as, a < p) (ex : xs[as.length]? = some x) (ey : ys[as.length]? = some y) (e : IsPair h p x y) :
    Made h lo xs ys (as ++ [p]) where
  rise := List.pairwise_append.mpr ⟨g.rise, List.pairwise_singleton _ _, fun a ha b hb => by
    rw [List.mem_singleton.mp hb]
    exact hp a ha⟩
  above := fun a ha => by
    rcases List.mem_append.mp ha with ha | ha
    · exact g.above a ha
    · rw [List.mem_singleton.mp ha]
      exact hl
  pair := fun j b q => by
    rcases Nat.lt_trichotomy j as.length with c | c | c
    · rw [List.getElem?_append_left c] at q
      exact g.pair j b q
    · subst c
      have eb : p = b := by simpa using q
      subst eb
      exact ⟨x, y, ex, ey, e⟩
    · have nn : (as ++ [p])[j]? = none := List.getElem?_eq_none (by rw [List.length_append, List.length_singleton]; omega)
      rw [nn] at q
      cases q

section
variable {prog : Program} {w : World} {A : Around} {E : Value → Shared → Prop} {s : Shared} {z TI TO i1 i2 l1 l2 S : Addr} {xs ys : Array Value}
theorem mid_item {i : Nat} {x y : Value} {Q : Option Value → Shared → Prop} (D : ZipApart z TI TO i1 i2 l1 l2) (m : Mid s.heap z TI TO i1 i2 l1 l2 S xs ys i) (hS : S < s.heap.objs.size) (ex : xs[i]? = some x) (ey : ys[i]? = some y)
    (hQ : ∀ h', Mid h' z TI TO i1 i2 l1 l2 S xs ys (i + 1) → IsPair h' s.heap.objs.size x y → h'.objs.size = s.heap.objs.size + 1 →
      (∀ c o, c ≠ z → c ≠ TO → c ≠ i1 → c ≠ i2 → s.heap.get? c = some o → h'.get? c = some o) → Q (some (.ref s.heap.objs.size)) { s with heap := h' }) :
    wpAny (model prog w) A (pyNext (.ref z)) Q E s := by
  have lz : z < s.heap.objs.size := by
    rcases m.zip with ⟨e, _⟩ | ⟨_, _, _, e, _⟩
    · exact Heap.lt_size e
    · exact Heap.lt_size e
  have l1' : i1 < s.heap.objs.size := by
    obtain ⟨_, e, _⟩ := m.one
    exact Heap.lt_size e
  have l2' : i2 < s.heap.objs.size := by
    obtain ⟨_, e, _⟩ := m.two
    exact Heap.lt_size e
  rcases m.zip with ⟨e, a, b, p⟩ | ⟨a, f, oa, e, ea, n1, n2, n3, n4⟩
  · refine pyNext_zipT_item D e m.its p m.one m.two m.fst m.snd ex ey fun h' a1 a2 a3 a4 a5 a6 a7 => ?_
    refine hQ h' ⟨.inr ⟨s.heap.objs.size, false, _, a1, a5, Nat.ne_of_gt lz, Nat.ne_of_gt l1', Nat.ne_of_gt l2', Nat.ne_of_gt hS⟩, ?_, a3, a4, ?_, ?_⟩ a5 a6 a7
    · exact a7 _ _ D.TIz D.TITO D.TIi1 D.TIi2 m.its
    · exact tup_keep m.fst fun o q => a7 _ o D.l1z D.l1TO D.l1i1 D.l1i2 q
    · exact tup_keep m.snd fun o q => a7 _ o D.l2z D.l2TO D.l2i1 D.l2i2 q
  · refine more D e ea m.its m.one m.two m.fst m.snd ex ey fun h' a1 a3 a4 a5 a6 a7 => ?_
    refine hQ h' ⟨.inr ⟨a, true, oa, a1, a7 a oa n1 n2 n3 ea, n1, n2, n3, n4⟩, ?_, a3, a4, ?_, ?_⟩ a5 a6 fun c o q1 _ q3 q4 q => a7 c o q1 q3 q4 q
    · exact a7 _ _ D.TIz D.TIi1 D.TIi2 m.its
    · exact tup_keep m.fst fun o q => a7 _ o D.l1z D.l1i1 D.l1i2 q
    · exact tup_keep m.snd fun o q => a7 _ o D.l2z D.l2i1 D.l2i2 q
theorem mid_end {i : Nat} {Q : Option Value → Shared → Prop} (hh : A.handled = none) (D : ZipApart z TI TO i1 i2 l1 l2) (m : Mid s.heap z TI TO i1 i2 l1 l2 S xs ys i) (he : xs[i]? = none ∨ ys[i]? = none)
    (hQ : ∀ h', (∀ c o, c ≠ z → c ≠ TO → c ≠ i1 → c ≠ i2 → s.heap.get? c = some o → h'.get? c = some o) → Q none { s with heap := h' }) :
    wpAny (model prog w) A (pyNext (.ref z)) Q E s := by
  rcases m.zip with ⟨e, a, b, p⟩ | ⟨a, f, oa, e, ea, n1, n2, n3, n4⟩
  · exact pyNext_zipT_end hh D e m.its p m.one m.two m.fst m.snd he hQ
  · exact last hh D e ea m.its m.one m.two m.fst m.snd he fun h' k => hQ h' fun c o q1 _ q3 q4 q => k c o q1 q3 q4 q

/-- the loop of list.extend over it -/
theorem grow {R : Result → Shared → Prop} {n : Nat} {lo : Addr} {h₁ : Heap} (hh : A.handled = none) (D : ZipApart z TI TO i1 i2 l1 l2) (f : Off z TI TO i1 i2 l1 l2 S) (bz : z ≤ lo) (bT : TO ≤ lo) (b1 : i1 ≤ lo) (b2 : i2 ≤ lo) (bS : S ≤ lo)
    (en : n = min xs.size ys.size) (hn : n ≤ sizeLine) (res : Value)
    (hR : ∀ h' tk acc c as, (∀ b o, b ≠ S → b ≠ z → b ≠ TO → b ≠ i1 → b ≠ i2 → h₁.get? b = some o → h'.get? b = some o) → h'.get? S = some { cls := .type "list", dict := none, data := .seq acc c, slots := #[] } → as.length = n → Made h' lo xs ys as →
      acc.toList = as.map Value.ref → R (.ok (.ret res)) { s with heap := h', toks := tk }) :
    ∀ (k i : Nat) (h : Heap) (tk c : Nat) (acc : Array Value) (as : List Addr), n - i = k → i ≤ n → Mid h z TI TO i1 i2 l1 l2 S xs ys i → (∀ b o, b ≠ S → b ≠ z → b ≠ TO → b ≠ i1 → b ≠ i2 → h₁.get? b = some o → h.get? b = some o) →
      h.get? S = some { cls := .type "list", dict := none, data := .seq acc c, slots := #[] } → acc.toList = as.map Value.ref → as.length = i → Made h lo xs ys as → lo < h.objs.size →
      codeAny (model prog w) A (.builtin "list.extend.loop" ⟨[.ref S, .ref z, res], []⟩) R { s with heap := h, toks := tk } := by
  have off : ∀ {q b : Addr}, q ≤ lo → lo < b → b ≠ q := fun {q b} u v => Nat.ne_of_gt (Nat.lt_of_le_of_lt u v)
  intro k
  induction k with
  | zero =>
    intro i h tk c acc as hk hi m kp hS hacc hal hG hIs
    have hin : i = n := by omega
    have he : xs[i]? = none ∨ ys[i]? = none := by
      rcases Nat.le_total xs.size ys.size with q | q
      · exact .inl (Array.getElem?_eq_none (by omega))
      · exact .inr (Array.getElem?_eq_none (by omega))
    refine codeAny_builtin PySem.F.entry_extend_loop ?_
    rw [Around.under_plainId PySem.F.plain_extend_loop _]
    show wpAny _ A.in1 (pyNext (.ref z) >>= _) _ _ _
    refine wpAny_bind (mid_end (s := { s with heap := h, toks := tk }) (A := A.in1) (S := S) hh D m he fun h' k2 => ?_)
    refine wpAny_pure (hR h' tk acc c as (fun b o q1 q2 q3 q4 q5 e => k2 b o q2 q3 q4 q5 (kp b o q1 q2 q3 q4 q5 e)) (k2 S _ f.nz.symm f.nTO.symm f.n1.symm f.n2.symm hS) (by omega) (hG.keep fun b o hb e => ?_) hacc)
    exact k2 b o (off bz hb) (off bT hb) (off b1 hb) (off b2 hb) e
  | succ k ih =>
    intro i h tk c acc as hk hi m kp hS hacc hal hG hIs
    have q1 : i < xs.size := by omega
    have q2 : i < ys.size := by omega
    have ex : xs[i]? = some xs[i] := Array.getElem?_eq_getElem q1
    have ey : ys[i]? = some ys[i] := Array.getElem?_eq_getElem q2
    have hsz : acc.size = i := by rw [← Array.length_toList, hacc, List.length_map, hal]
    have hSl : S < h.objs.size := Heap.lt_size hS
    refine codeAny_builtin PySem.F.entry_extend_loop ?_
    rw [Around.under_plainId PySem.F.plain_extend_loop _]
    show wpAny _ A.in1 (pyNext (.ref z) >>= _) _ _ _
    refine wpAny_bind (mid_item (s := { s with heap := h, toks := tk }) (S := S) D m hSl ex ey fun h' m' ht hz k2 => ?_)
    dsimp only at ht hz k2 ⊢
    have hS' := k2 S _ f.nz.symm f.nTO.symm f.n1.symm f.n2.symm hS
    have up : ∀ b o, b ≠ S → h'.get? b = some o → (h'.update S (Obj.mapSeq (·.push (Value.ref h.objs.size)))).get? b = some o := fun b o hb e => (Heap.get?_update_other _ _ (Ne.symm hb)).trans e
    have G1 : Made h' lo xs ys as := hG.keep fun b o hb e => k2 b o (off bz hb) (off bT hb) (off b1 hb) (off b2 hb) e
    have G2 : Made h' lo xs ys (as ++ [h.objs.size]) := G1.snoc hIs (fun a ha => hG.there ha) (by rw [hal]; exact ex) (by rw [hal]; exact ey) ht
    have G3 := G2.keep (h' := h'.update S (Obj.mapSeq (·.push (Value.ref h.objs.size)))) fun b o hb e => up b o (off bS hb) e
    have up2 : (h'.update S (Obj.mapSeq (·.push (Value.ref h.objs.size)))).get? h.objs.size = _ := up _ _ (Nat.ne_of_gt hSl) ht
    show wpAny _ A.in1 (updateSeq S (·.push (Value.ref h.objs.size)) >>= _) _ _ _
    refine wpAny_bind ?_
    refine wpAny_updateSeq hS' rfl (wpAny_pure ⟨plainId_quiet PySem.F.plain_extend_loop _, ih (i + 1) _ tk _ (acc.push (Value.ref h.objs.size)) (as ++ [h.objs.size]) (by omega) (by omega) (m'.keep f up)
      (fun b o c1 c2 c3 c4 c5 e => up b o c1 (k2 b o c2 c3 c4 c5 (kp b o c1 c2 c3 c4 c5 e))) (Heap.get?_update_self _ hS' rfl) (by rw [Array.toList_push, hacc, List.map_append]; rfl) (by rw [List.length_append, hal]; rfl) G3 ?_⟩) (by rw [hsz]; omega) (by show (acc.push (Value.ref h.objs.size)).size ≤ sizeLine + 1; rw [Array.size_push, hsz]; omega)
    exact Nat.lt_trans hIs (Heap.lt_size up2)
theorem no_len : typeLookup (.type "zip") "__len__" = pure none := by
  rw [typeLookup_type, builtinLookup_eq_fast]
  kernel_rfl
theorem no_hint : typeLookup (.type "zip") "__length_hint__" = pure none := by
  rw [typeLookup_type, builtinLookup_eq_fast]
  kernel_rfl
theorem mid_type {h : Heap} {g dr tk os} {i : Nat} (m : Mid h z TI TO i1 i2 l1 l2 S xs ys i) : Shared.TypeIs ⟨h, g, dr, tk, os⟩ (.ref z) "zip" := by
  rcases m.zip with ⟨e, _⟩ | ⟨_, _, _, e, _⟩
  · exact ⟨_, e, rfl⟩
  · exact ⟨_, e, rfl⟩
theorem call_list {n : Nat} {Q : Value → Shared → Prop} (hh : A.handled = none) (D : ZipApart z TI TO i1 i2 l1 l2) (hz : IsZip s.heap z TI TO .none) (m : Mid s.heap z TI TO i1 i2 l1 l2 s.heap.objs.size xs ys 0) (lTI : TI < s.heap.objs.size) (lTO : TO < s.heap.objs.size)
    (en : n = min xs.size ys.size) (hn : n ≤ sizeLine)
    (hQ : ∀ h' tk acc c as, (∀ b o, b ≠ z → b ≠ TO → b ≠ i1 → b ≠ i2 → s.heap.get? b = some o → h'.get? b = some o) → h'.get? s.heap.objs.size = some { cls := .type "list", dict := none, data := .seq acc c, slots := #[] } → as.length = n →
      Made h' s.heap.objs.size xs ys as → acc.toList = as.map Value.ref → Q (.ref s.heap.objs.size) { s with heap := h', toks := tk }) :
    wpAny (model prog w) A (call (.type "list") [.ref z]) Q E s := by
  obtain ⟨hp, g, dr, tk0, os⟩ := s
  have lz : z < hp.objs.size := by
    rcases m.zip with ⟨e, _⟩ | ⟨_, _, _, e, _⟩
    · exact Heap.lt_size e
    · exact Heap.lt_size e
  have li1 : i1 < hp.objs.size := by
    obtain ⟨_, e, _⟩ := m.one
    exact Heap.lt_size e
  have li2 : i2 < hp.objs.size := by
    obtain ⟨_, e, _⟩ := m.two
    exact Heap.lt_size e
  have ll1 : l1 < hp.objs.size := by
    obtain ⟨_, e, _⟩ := m.fst
    exact Heap.lt_size e
  have ll2 : l2 < hp.objs.size := by
    obtain ⟨_, e, _⟩ := m.snd
    exact Heap.lt_size e
  have f : Off z TI TO i1 i2 l1 l2 hp.objs.size := ⟨Nat.ne_of_lt lz, Nat.ne_of_lt lTI, Nat.ne_of_lt lTO, Nat.ne_of_lt li1, Nat.ne_of_lt li2, Nat.ne_of_lt ll1, Nat.ne_of_lt ll2⟩
  refine callType_codes (Q₁ := fun obj q => obj = .ref hp.objs.size ∧ q = ⟨hp.push { cls := .type "list", data := .seq #[] }, g, dr, tk0, os⟩) PySem.F.called_list (PySem.F.typeCall_list_1 _) PySem.F.entry_list_init (code_list_new _ ⟨rfl, rfl⟩) fun obj q hq => ?_
  obtain ⟨rfl, rfl⟩ := hq
  have hS : (hp.push { cls := .type "list", data := .seq #[] }).get? hp.objs.size = some { cls := .type "list", data := .seq #[] } := Heap.get?_push_size _ rfl
  refine ⟨⟨_, hS, rfl⟩, PySem.F.args_list_init_2 _ _, ?_⟩
  have m1 : Mid (hp.push { cls := .type "list", data := .seq #[] }) z TI TO i1 i2 l1 l2 hp.objs.size xs ys 0 := m.keep f fun b o _ e => Heap.get?_push_of_some _ e
  have up1 : ∀ (F : Array Value → Array Value) (h : Heap) (b : Addr) (o : Obj), b ≠ hp.objs.size → h.get? b = some o → (h.update hp.objs.size (Obj.mapSeq F)).get? b = some o := fun F h b o nb e => (Heap.get?_update_other _ _ (Ne.symm nb)).trans e
  show wpAny _ A.in1.in1 (do let old ← Builtin.List.listItems (.ref hp.objs.size); Builtin.List.listUpdate (.ref hp.objs.size) (fun _ => #[]); letGo old.toList.reverse; Builtin.List.listExtendWith (.ref hp.objs.size) (.ref z) .none) _ _ _
  refine wpAny_bind ?_
  unfold Builtin.List.listItems
  refine wpAny_bind (wpAny_seqItems hS rfl (wpAny_pure ?_))
  show wpAny _ A.in1.in1 (updateSeq hp.objs.size (fun _ => #[]) >>= fun _ => letGo (#[] : Array Value).toList.reverse >>= fun _ => Builtin.List.listExtendWith (.ref hp.objs.size) (.ref z) .none) _ _ _
  refine wpAny_bind (wpAny_updateSeq hS rfl ?_)
  have hS2 := Heap.get?_update_self (Obj.mapSeq (fun _ => (#[] : Array Value))) hS rfl
  have m2 := m1.keep f (up1 (fun _ => #[]) _)
  refine wpAny_bind (wpAny_letGo ?_)
  unfold Builtin.List.listExtendWith
  refine wpAny_bind (wpAny_typeOf (mid_type m2) ?_)
  have c1 : Builtin.List.listSameRef (.ref hp.objs.size) (.ref z) = false := by simp [Builtin.List.listSameRef, f.nz.symm]
  have c2 : (Value.type "zip" == Value.type "list") = false := by decide +kernel
  have c3 : (Value.type "zip" == Value.type "tuple") = false := by decide +kernel
  simp only [c1, c2, c3, Bool.or_false, Bool.false_eq_true, if_false]
  have hz2 : IsZip ((hp.push { cls := .type "list", data := .seq #[] }).update hp.objs.size (Obj.mapSeq fun _ => (#[] : Array Value))) z TI TO .none := up1 _ _ _ _ f.nz (Heap.get?_push_of_some _ hz)
  refine wpAny_bind (wpAny_pyIter_zip hz2 ?_)
  refine wpAny_bind (wpAny_holding ?_)
  unfold Builtin.List.listLengthHint
  refine wpAny_bind (wpAny_specialOf (mid_type m2) no_len ?_)
  show wpAny _ A.in1.in1 (specialOf (Value.ref z) (Str.ofString "__length_hint__") >>= _) _ _ _
  refine wpAny_bind (wpAny_specialOf (mid_type m2) no_hint ?_)
  refine wpAny_pure ?_
  show wpAny _ A.in1.in1 (rule "list.extend.makes-room" >>= fun _ => Builtin.List.listTouch (.ref hp.objs.size) >>= fun _ => again (.builtin "list.extend.loop" ⟨[.ref hp.objs.size, .ref z, .none], []⟩)) _ _ _
  refine wpAny_bind (wpAny_rule ?_)
  refine wpAny_bind ?_
  show wpAny _ A.in1.in1 (updateSeq hp.objs.size (·.push .none) >>= fun _ => updateSeq hp.objs.size (·.pop)) _ _ _
  refine wpAny_bind (wpAny_updateSeq hS2 rfl ?_)
  have hS3 := Heap.get?_update_self (Obj.mapSeq (·.push Value.none)) hS2 rfl
  refine wpAny_updateSeq hS3 rfl ?_
  have hS4 := Heap.get?_update_self (Obj.mapSeq (·.pop)) hS3 rfl
  have m4 := (m2.keep f (up1 (·.push Value.none) _)).keep f (up1 (·.pop) _)
  refine wpAny_pure ⟨plainId_quiet PySem.F.plain_extend_loop _, ?_⟩
  have lS := Heap.lt_size hS4
  refine grow (A := A.in1) (h₁ := hp) (n := n) (lo := hp.objs.size) (s := ⟨hp, g, dr, tk0, os⟩) hh D f (Nat.le_of_lt lz) (Nat.le_of_lt lTO) (Nat.le_of_lt li1) (Nat.le_of_lt li2) (Nat.le_refl _) en hn .none (fun h' tk acc c as k e1 e2 e3 e4 => ?_) n 0 _ _ _ #[] [] (by omega) (Nat.zero_le _) m4 (fun b o q1 q2 q3 q4 q5 e => ?_) hS4 rfl rfl ⟨List.Pairwise.nil, fun _ ha => (nomatch ha), fun j a hj => by simp at hj⟩ ?_
  · exact ⟨rfl, hQ h' tk acc c as (fun b o q1 q2 q3 q4 e => k b o (Nat.ne_of_lt (Heap.lt_size e)) q1 q2 q3 q4 e) e1 e2 e3 e4⟩
  · exact up1 _ _ _ _ q1 (up1 _ _ _ _ q1 (up1 _ _ _ _ q1 (Heap.get?_push_of_some _ e)))
  · exact lS
end
end LmZip

set_option maxHeartbeats 2000000
/-! list(zip(t, u)) as an expression. -/
namespace LmZip
open PySem PySem.Spec PyProof.Rows RZ L2

/-- pairs written at their addresses -/
def putP : Hp → List Addr → List (V × V) → Hp
  | H, t :: ts, q :: qs => putP (upd H t (.tup [q.1, q.2])) ts qs
  | H, _, _ => H
theorem putP_off {c : Addr} : ∀ {ts : List Addr} {qs : List (V × V)} {H : Hp}, c ∉ ts → putP H ts qs c = H c
  | [], _, _, _ => rfl
  | _ :: _, [], _, _ => rfl
  | t :: ts, q :: qs, H, h => by
    show putP (upd H t (.tup [q.1, q.2])) ts qs c = H c
    rw [putP_off (fun z => h (List.mem_cons_of_mem _ z)), upd_ne (fun z => h (by rw [z]; exact List.mem_cons_self))]
theorem putP_at : ∀ {ts : List Addr} {qs : List (V × V)} {H : Hp}, ts.length = qs.length → ts.Nodup → ∀ {j : Nat} {t : Addr}, ts[j]? = some t → ∃ q, qs[j]? = some q ∧ putP H ts qs t = some (.tup [q.1, q.2])
  | [], _, _, _, _, j, t, e => by simp at e
  | _ :: _, [], _, h, _, _, _, _ => by cases h
  | t :: ts, q :: qs, H, h, hn, 0, u, e => by
    have e2 : t = u := by simpa using e
    subst e2
    refine ⟨q, rfl, ?_⟩
    show putP (upd H t (.tup [q.1, q.2])) ts qs t = _
    rw [putP_off (List.nodup_cons.mp hn).1, upd_same]
  | t :: ts, q :: qs, H, h, hn, j + 1, u, e => by
    have e2 : ts[j]? = some u := by simpa using e
    obtain ⟨q', e3, e4⟩ := putP_at (ts := ts) (qs := qs) (H := upd H t (.tup [q.1, q.2])) (Nat.succ.inj h) (List.nodup_cons.mp hn).2 e2
    exact ⟨q', by simpa using e3, e4⟩
theorem vals_ref : ∀ as : List Addr, Vals (as.map V.ref) (as.map Value.ref)
  | [] => .nil
  | _ :: as => .cons rfl (vals_ref as)

/-- the new list of new pairs -/
def rLz (K : PySem.W.Frag) : List V → Hp → VK → Prop := fun vs H Q => ∃ (a b : Addr) (xs ys : List V), vs = [.ref a, .ref b] ∧ SqT K H a xs ∧ SqT K H b ys ∧
  ∀ (p : Addr) (ts : List Addr), H p = none → (∀ t ∈ ts, H t = none) → p ∉ ts → ts.Nodup → ts.length = (xs.zip ys).length → Q (.ref p) (putP (upd H p (.lst (ts.map V.ref))) ts (xs.zip ys))
section
variable {X : Cx}
theorem zip_at {xs ys : List V} {us ws : List Value} (r1 : Vals xs us) (r2 : Vals ys ws) {j : Nat} {x y : Value} (ex : us.toArray[j]? = some x) (ey : ws.toArray[j]? = some y) : ∃ q : V × V, (xs.zip ys)[j]? = some q ∧ RelV q.1 x ∧ RelV q.2 y := by
  have e1 : us[j]? = some x := by simpa using ex
  have e2 : ws[j]? = some y := by simpa using ey
  cases hx : xs[j]? with
  | none => rw [r1.none_of hx] at e1; cases e1
  | some u =>
    cases hy : ys[j]? with
    | none => rw [r2.none_of hy] at e2; cases e2
    | some v =>
      obtain ⟨u', g1, g2⟩ := r1.get hx
      obtain ⟨v', g3, g4⟩ := r2.get hy
      rw [e1] at g1
      rw [e2] at g3
      cases g1
      cases g3
      exact ⟨(u, v), by rw [List.getElem?_zip_eq_some]; exact ⟨hx, hy⟩, g2, g4⟩
theorem pe_listZip {e e2 : Expr} {ta : TA} {p p2 pos pos2 : Pos} (hc : X.calm = true) (hg : Gl X "list") (hm : X.mg "list" = none) (hg2 : Gl X "zip") (hm2 : X.mg "zip" = none) (ha : PA X [e, e2] ta)
    (hs : starEach [e, e2] X.env = (false, eval e X.env) :: starEach [e2] X.env := by rfl) (hpl : (backTo pos2 (starEach [e2] X.env)).any (·.1) = false := by rfl)
    (hs1 : starEach [.Call (.Name "zip" p2) [e, e2] [] pos2] X.env = (false, eval (.Call (.Name "zip" p2) [e, e2] [] pos2) X.env) :: starEach [] X.env := by rfl) :
    PE X (.Call (.Name "list" p) [.Call (.Name "zip" p2) [e, e2] [] pos2] [] pos) (tCB (rLz X.K) ta) := by
  refine ⟨fun pins s σ H Q I h => ?_⟩
  refine wpAny_Call_Name_kw (ld_blt I hg hm PyProof.Rows.boot_list ?_)
  refine PyProof.Rows.callWith_type1 ?_ hs1 rfl
  rw [hs1]
  show wpAny _ _ (spliced ((false, eval (.Call (.Name "zip" p2) [e, e2] [] pos2) X.env) :: backTo pos (starEach [] X.env))) _ _ s
  refine Calls.spliced_cons ?_
  refine Call_ (ld_blt I hg2 hm2 PyProof.Rows.boot_zip (PyProof.Rows.callWith_type1 (thn (ha.run pos2 pins s σ H _ I h) fun us s1 ⟨vs, H1, I1, r1, q1⟩ => ?_) hs hpl))
  obtain ⟨a, b, xs, ys, rfl, hx, hy, q⟩ := q1
  obtain ⟨u1, u2, rfl, ra, rb⟩ := vals2 r1
  cases ra
  cases rb
  obtain ⟨its, rv, pt, hz1⟩ := I1.tuple hx
  obtain ⟨its2, rv2, pt2, hz2⟩ := I1.tuple hy
  obtain ⟨o1, ho1, _⟩ := id pt
  obtain ⟨o2, ho2, _⟩ := id pt2
  refine call_zipT (show s1.heap.IsTuple a its.toArray from pt) (show s1.heap.IsTuple b its2.toArray from pt2) fun h1 b1 b2 b3 b4 b5 b6 b7 => ?_
  refine Calls.spliced_nil ?_
  have D := PySem.W.ktu_apart s1.heap.objs.size a b (Heap.lt_size ho1) (Heap.lt_size ho2)
  have m : Mid h1 (s1.heap.objs.size + 4) (s1.heap.objs.size + 2) (s1.heap.objs.size + 3) s1.heap.objs.size (s1.heap.objs.size + 1) a b h1.objs.size its.toArray its2.toArray 0 :=
    ⟨.inl ⟨b1, _, _, b3⟩, b2, b4, b5, tup_keep pt fun o e => b7 a o e, tup_keep pt2 fun o e => b7 b o e⟩
  have el : its.toArray.size = xs.length := by rw [List.size_toArray]; exact rv.length.symm
  have el2 : its2.toArray.size = ys.length := by rw [List.size_toArray]; exact rv2.length.symm
  show wpAny _ _ (call (.type "list") [.ref (s1.heap.objs.size + 4)]) _ _ _
  refine call_list (s := { s1 with heap := h1 }) (n := (xs.zip ys).length) (I1.ok.hd hc) D b1 m (Heap.lt_size b2) (Heap.lt_size b3) (by rw [el, el2, List.length_zip]) (by rw [List.length_zip]; omega) fun h' tk acc cc as k1 k2 k3 G k4 => ?_
  have k0 : ∀ c o, s1.heap.get? c = some o → h'.get? c = some o := fun c o e => by
    have lt := Heap.lt_size e
    refine k1 c o ?_ ?_ ?_ ?_ (b7 c o e)
    · exact Nat.ne_of_lt (Nat.lt_of_lt_of_le lt (Nat.le_add_right _ _))
    · exact Nat.ne_of_lt (Nat.lt_of_lt_of_le lt (Nat.le_add_right _ _))
    · exact Nat.ne_of_lt lt
    · exact Nat.ne_of_lt (Nat.lt_of_lt_of_le lt (Nat.le_add_right _ _))
  have lS : s1.heap.objs.size ≤ h1.objs.size := by rw [b6]; exact Nat.le_add_right _ _
  have fS : H1 h1.objs.size = none := I1.hok.fresh lS
  have fT : ∀ t ∈ as, H1 t = none := fun t ht => I1.hok.fresh (Nat.le_trans lS (Nat.le_of_lt (G.above t ht)))
  have nS : h1.objs.size ∉ as := fun z => Nat.lt_irrefl _ (G.above _ z)
  have nd : as.Nodup := List.Pairwise.imp (fun {a b} (h : a < b) => Nat.ne_of_lt h) G.rise
  have lo : ∀ c o, s1.heap.get? c = some o → c ∉ as ∧ c ≠ h1.objs.size := fun c o e =>
    ⟨fun z => Nat.lt_irrefl _ (Nat.lt_trans (Nat.lt_of_lt_of_le (Heap.lt_size e) lS) (G.above c z)), Nat.ne_of_lt (Nat.lt_of_lt_of_le (Heap.lt_size e) lS)⟩
  have kp : ∀ c o, H1 c = some o → putP (upd H1 h1.objs.size (.lst (as.map V.ref))) as (xs.zip ys) c = some o := fun c o e => by
    rw [putP_off (fun z => by rw [fT c z] at e; cases e), upd_ne (fun z => by rw [z, fS] at e; cases e)]
    exact e
  have J : Inv X pins σ (putP (upd H1 h1.objs.size (.lst (as.map V.ref))) as (xs.zip ys)) { s1 with heap := h', toks := tk } := by
    refine I1.call' (ch := []) rfl ⟨fun c o q _ _ _ => k0 c o q, fun c o q _ _ _ => ⟨o.slots, k0 c o q⟩, fun c o q n _ => ?_, fun c o q _ => ⟨o, k0 c o q⟩, fun c xs q => kp c _ q, fun c o u q => kp c _ q, fun c ps q => ⟨#[], by rw [kp c _ q]; simp⟩⟩ (fun c u q => ?_) I1.bare fun c z => by simp at z
    · obtain ⟨z1, z2⟩ := lo c o q
      rw [putP_off z1, upd_ne z2]
      exact n
    · by_cases hb : c ∈ as
      · obtain ⟨j, ej⟩ := List.mem_iff_getElem?.mp hb
        obtain ⟨x, y, f1, f2, f3⟩ := G.pair j c ej
        obtain ⟨q', g1, g2⟩ := putP_at (H := upd H1 h1.objs.size (.lst (as.map V.ref))) (qs := xs.zip ys) k3 nd ej
        rw [g2] at q
        cases q
        obtain ⟨q2, g3, g4, g5⟩ := zip_at rv rv2 f1 f2
        rw [g1] at g3
        cases g3
        exact ⟨by show 2 ≤ sizeLine; decide, [x, y], .cons g4 (.cons g5 .nil), ⟨_, f3, rfl, _, rfl⟩⟩
      · by_cases hb2 : c = h1.objs.size
        · rw [hb2] at q ⊢
          rw [putP_off nS, upd_same] at q
          cases q
          refine ⟨by rw [List.length_map, k3, List.length_zip]; omega, acc.toList, cc, by rw [k4]; exact vals_ref as, ?_⟩
          rw [Array.toArray_toList]
          exact k2
        · rw [putP_off hb, upd_ne hb2] at q
          exact (I1.hok c u q).stay (fun d v _ y => k0 d v y) (fun d y => kp d _ y) fun d xs y => kp d _ y
  exact ⟨.ref h1.objs.size, _, J, rfl, q _ as fS fT nS nd k3⟩
end
end LmZip

set_option maxHeartbeats 2000000
/-! type(x), and types compared. -/
namespace LmType
open PySem PySem.Spec PyProof.Rows PySem.TypeEq L2
/-- the types that are met here -/
def Known (S : String) : Prop := S = "int" ∨ S = "str" ∨ S = "bool" ∨ S = "NoneType" ∨ S = "list" ∨ S = "tuple" ∨ S = "dict"
theorem Known.is {S : String} (k : Known S) (s' : Shared) : s'.TypeIs (.type S) "type" := by
  rcases k with rfl | rfl | rfl | rfl | rfl | rfl | rfl
  · exact meta_int s'
  · exact meta_str s'
  · exact meta_bool s'
  · exact meta_NoneType s'
  · exact meta_list s'
  · exact meta_tuple s'
  · exact meta_dict s'
theorem Known.beq {S T : String} (k : Known S) (l : Known T) : (Value.type S == Value.type T) = decide (S = T) := by
  rcases k with rfl | rfl | rfl | rfl | rfl | rfl | rfl <;> rcases l with rfl | rfl | rfl | rfl | rfl | rfl | rfl <;> decide +kernel
theorem Known.notFn {S : String} (k : Known S) : (Value.type S == Value.type "builtin_function_or_method") = false := by
  rcases k with rfl | rfl | rfl | rfl | rfl | rfl | rfl <;> decide +kernel
theorem slot_ne : Slot "type" (cmpInfo .NotEq).2.1 "object.__ne__" :=
  .of (owner := "object") (n := "__ne__") (by rw [typeLookup_type, builtinLookup_eq_fast]; kernel_rfl) (by decide +kernel) (by decide +kernel) (by decide +kernel)
    (by first | exact .inl (by decide +kernel) | exact .inr (by decide +kernel)) (by rw [isSubtype_type]; kernel_rfl)
section
variable {prog : Program} {w : World} {A : Around} {E : Value → Shared → Prop} {s : Shared} {S T : String}
theorem ne_call {Q : Value → Shared → Prop} (k : Known S) (l : Known T) (h1 : S = T → Q (.bool false) s) (h2 : S ≠ T → Q .notImplemented s) :
    wpAny (model prog w) A (call (.builtin "object.__ne__") [.type S, .type T]) Q E s := by
  refine wpAny_call (codeAny_call_builtin slot_ne.plain F.cmpEntry_ne (slot_ne.check _ _ _ _ _ _ _ _ (k.is s) (F.cmpArgs_ne _ _) ?_))
  unfold Builtin.«object.__ne__»
  refine wpAny_bind (wpAny_of_eq (a := ((Value.type S : Value), [Value.type T])) (by first | rfl | (simp only [slotArgs]; rfl)) ?_)
  refine wpAny_bind (wpAny_cRoomFor_or (.inl rfl) ?_)
  refine wpAny_bind (wpAny_callSpecialIfBound?_slot (name := Str.ofString "__eq__") (k.is s) slot_type_eq ?_)
  by_cases e : S = T
  · subst e
    exact call_gives slot_type_eq (k.is s) F.entry_object_eq (F.args_object_eq_2 _ _) (object_eq_same rfl (by simp)) (wpAny_bind (wpAny_truthy_bool (wpAny_pure (h1 rfl))))
  · exact call_gives slot_type_eq (k.is s) F.entry_object_eq (F.args_object_eq_2 _ _) (object_eq_other rfl (by rw [k.beq l]; exact decide_eq_false e)) (wpAny_pure (h2 e))
theorem ne_type {Q : Value → Shared → Prop} (k : Known S) (l : Known T) (h : Q (.bool (!decide (S = T))) s) : wpAny (model prog w) A (compareOp .NotEq (.type S) (.type T)) Q E s := by
  show wpAny _ A (richCompare .NotEq _ _) Q E s
  by_cases e : S = T
  · rw [decide_eq_true e] at h
    refine wpAny_richCompare_same (T := "type") (k.is s) (l.is s) slot_ne (ne_call k l (fun _ => ⟨(by intro e; cases e), h⟩) fun n => absurd e n)
  · rw [decide_eq_false e] at h
    have sl := slot_ne
    rcases hi : cmpInfo CmpOp.NotEq with ⟨sym, f, r⟩
    have er : r = f := by
      cases hi
      rfl
    subst er
    rw [hi] at sl
    simp only [richCompare, hi, (k.is s).oneThing_none]
    refine wpAny_holding ?_
    refine wpAny_bind (wpAny_cRoomFor_or (.inl rfl) ?_)
    refine wpAny_bind (wpAny_typeOf (k.is s) (wpAny_bind (wpAny_typeOf (l.is s) ?_)))
    simp only [bne_self_eq_false, Bool.false_eq_true, if_false, pure_bind, Bool.not_false, if_true]
    refine wpAny_bind (m := tryCompare (Value.type S) _ (Value.type T)) (wpAny_tryCompare_declines (k.is s) sl (ne_call k l (fun q => absurd q e) fun _ => ⟨rfl, ?_⟩))
    refine wpAny_bind (m := tryCompare (Value.type T) _ (Value.type S)) (wpAny_tryCompare_declines (l.is s) sl (ne_call l k (fun q => absurd q.symm e) fun _ => ⟨rfl, ?_⟩))
    refine wpAny_bind (wpAny_rule (wpAny_bind (wpAny_of_eq (isSame_plain rfl) (wpAny_pure ?_))))
    rw [k.beq l, decide_eq_false e]
    exact h
theorem eq_type {Q : Value → Shared → Prop} (k : Known S) (l : Known T) (h : Q (.bool (decide (S = T))) s) : wpAny (model prog w) A (compareOp .Eq (.type S) (.type T)) Q E s := by
  by_cases e : S = T
  · subst e
    rw [decide_eq_true rfl] at h
    exact eq_type_same k.is h
  · rw [decide_eq_false e] at h
    exact eq_type_other k.is l.is (by rw [k.beq l]; exact decide_eq_false e) h
end
/-- the type of a value -/
inductive TyA (H : Hp) : V → String → Prop
  | non : TyA H .non "NoneType"
  | bl (b : Bool) : TyA H (.bl b) "bool"
  | int (i : Int) : TyA H (.int i) "int"
  | str (x : Str) : TyA H (.str x) "str"
  | lst {a : Addr} {xs : List V} (e : H a = some (.lst xs)) : TyA H (.ref a) "list"
  | tup {a : Addr} {xs : List V} (e : Rd H a (.tup xs)) : TyA H (.ref a) "tuple"
  | dic {a : Addr} {kvs : List (Key × V)} (e : H a = some (.dK kvs)) : TyA H (.ref a) "dict"
theorem TyA.known {H : Hp} {x : V} {T : String} (t : TyA H x T) : Known T := by
  unfold Known
  cases t <;> simp
section
variable {X : Cx}
theorem TyA.is {pins : List (Addr × Obj)} {σ : L2.St} {H : Hp} {s : Shared} {x : V} {u : Value} {T : String} (t : TyA H x T) (I : Inv X pins σ H s) (r : RelV x u) : s.TypeIs u T := by
  cases t with
  | non =>
    cases r
    exact typeIs_none s
  | bl b =>
    cases r
    exact PySem.typeIs_bool s b
  | int i =>
    obtain ⟨k, rfl⟩ := r
    exact typeIs_int s i k
  | str z =>
    obtain ⟨k, rfl⟩ := r
    exact typeIs_str s z k
  | lst e =>
    cases r
    obtain ⟨its, rv, p, _⟩ := I.list (.inl (.inl e))
    exact p.isList.typeIs
  | tup e =>
    cases r
    obtain ⟨its, rv, p, _⟩ := I.tuple (.inl e)
    exact p.typeIs
  | @dic a kvs e =>
    cases r
    obtain ⟨_, _, vs, _, p⟩ := (show ObjOk X.prog X.w H s.heap a (.dK kvs) from I.hok a _ e)
    exact p.typeIs
/-- type(x) -/
def rType : List V → Hp → VK → Prop := fun xs H Q => ∃ (x : V) (T : String), xs = [x] ∧ TyA H x T ∧ Q (.ty T) H
theorem call_type : CallR X (.type "type") rType := by
  intro pins s σ H xs us Q I r h
  obtain ⟨x, T, rfl, t, q⟩ := h
  obtain ⟨u, rfl, rx⟩ := vals1 r
  exact call_type_of (t.is I rx) t.known.notFn ⟨.ty T, H, I, rfl, q⟩
def rEqTy : R2 := fun x y H Q => ∃ S T, x = .ty S ∧ y = .ty T ∧ Known S ∧ Known T ∧ Q (.bl (decide (S = T))) H
def rNeTy : R2 := fun x y H Q => ∃ S T, x = .ty S ∧ y = .ty T ∧ Known S ∧ Known T ∧ Q (.bl (!decide (S = T))) H
theorem op_eqTy : OpR X (compareOp .Eq) rEqTy := by
  intro pins s σ H x y v u Q I rx ry h
  obtain ⟨S, T, rfl, rfl, k, l, q⟩ := h
  cases rx
  cases ry
  exact eq_type k l ⟨.bl _, H, I, rfl, q⟩
theorem op_neTy : OpR X (compareOp .NotEq) rNeTy := by
  intro pins s σ H x y v u Q I rx ry h
  obtain ⟨S, T, rfl, rfl, k, l, q⟩ := h
  cases rx
  cases ry
  exact ne_type k l ⟨.bl _, H, I, rfl, q⟩
end
end LmType

set_option maxHeartbeats 2000000
/-! A caught error of an own class that is kept beyond its except clause. -/
namespace LmExc
open PySem PySem.Spec PyProof.Rows L2
/-- an error of the class at D, without a dict of its own, stands at a -/
def ErrO (D a : Addr) : HO := .ext fun h => ∃ (oe : Obj) (vs : Array Value), h.get? a = some oe ∧ Zc (.ref D) none oe ∧ oe.data = .fields vs
theorem errO_ok {P : Program} {w : World} {H : Hp} {h : Heap} {a D : Addr} {oe : Obj} {vs : Array Value} (e : h.get? a = some oe) (z : Zc (.ref D) none oe) (d : oe.data = .fields vs) : ObjOk P w H h a (ErrO D a) :=
  ⟨⟨oe, vs, e, z, d⟩, ⟨oe, e⟩, fun _ _ ⟨o, v, q, r⟩ k => ⟨o, v, k o q, r⟩⟩
section
variable {X : Cx} {pins : List (Addr × Obj)} {σ : L2.St} {H : Hp} {s : Shared}
/-- an object that is new since the entry, untracked so far, is tracked -/
theorem track {a : Addr} {o : HO} {u : Obj} {vs : Array Value} (I : Inv X pins σ H s) (n0 : X.s_0.heap.get? a = none) (hn : H a = none) (hu : s.heap.get? a = some u) (hd : u.data = .fields vs) (hL : a ≠ X.env.locals) (hp : ∀ p ∈ X.pn ++ pins, p.1 ≠ a)
    (new : ObjOk X.prog X.w (upd H a o) s.heap a o) : Inv X pins σ (upd H a o) s := by
  have ne0 : ∀ b v, X.s_0.heap.get? b = some v → b ≠ a := fun b v e z => by
    rw [z, n0] at e
    cases e
  have kp : ∀ b v, H b = some v → upd H a o b = some v := fun b v e => by
    rw [upd_ne (ne_of_none e hn)]
    exact e
  refine ⟨I.ok, I.os, I.bare, ⟨I.base.keep, I.base.slot, fun b v e n hx => ?_, I.base.there, fun b xs e => kp b _ (I.base.tups b xs e), fun b v u e => kp b _ (I.base.frzs b v u e), fun b ps e => ?_⟩, I.loc, I.cell, ?_, fun x c e => ?_, fun p hm => ?_, fun b v e => ?_, I.len⟩
  · rw [upd_ne (ne0 b v e)]
    exact I.base.free b v e n hx
  · obtain ⟨m, q⟩ := I.base.tbls b ps e
    exact ⟨m, kp b _ q⟩
  · rw [upd_ne hL.symm]
    exact I.free
  · obtain ⟨v, ob, q, r⟩ := I.cell x c e
    rw [upd_ne (fun z => by rw [z, hu] at q; cases q; rw [hd] at r; cases r)]
    exact I.freeC x c e
  · obtain ⟨h1, h2, h3⟩ := I.pin p hm
    exact ⟨h1, by rw [upd_ne (hp p hm)]; exact h2, h3⟩
  · by_cases hb : b = a
    · subst hb
      rw [upd_same] at e
      cases e
      exact new
    · rw [upd_ne hb] at e
      exact (I.hok b v e).stay (fun c w _ q => q) (fun c q => kp c _ q) fun c xs q => kp c _ q
theorem toSuite (I : Inv X pins σ H s) (a : Addr) : Inv (X.suite a (X.pn ++ pins)) [] σ H s :=
  ⟨I.ok.suite _ _, I.os, I.bare, I.base, I.loc, I.cell, I.free, I.freeC, fun p hp => I.pin p (by rw [List.append_nil] at hp; exact hp), I.hok, I.len⟩
theorem ofSuite {a : Addr} (I : Inv (X.suite a (X.pn ++ pins)) [] σ H s) (ok : X.Ok) : Inv X pins σ H s :=
  ⟨ok, I.os, I.bare, I.base, I.loc, I.cell, I.free, I.freeC, fun p hp => I.pin p (by rw [List.append_nil]; exact hp), I.hok, I.len⟩
end
/-- what the clause wishes of an error of the body: it is one of its class's, and the suite goes on with it, slot i its name -/
def wHeld (K : PySem.W.Frag) (c : Value) (i : Nat) (ts : Addr → TS) (D : Ends) : WX := fun cls d σ H =>
  ∃ C, cls = .ref C ∧ d = none ∧ PySem.W.exmOne K cls c = some true ∧ ∀ a, H a = none →
    ts a { nx := fun σ' H' => D.nx (σ'.set i none) H', rt := D.rt, bk := fun σ' H' => D.bk (σ'.set i none) H', ct := fun σ' H' => D.ct (σ'.set i none) H' } (σ.set i (some (.ref a))) (upd H a (ErrO C a))
section
variable {X : Cx} {x n : Str} {c : Value} {i : Nat} {body suite : List Stmt} {b₀ : Stmt} {np pos pos' : Pos} {tb : WX → TS} {ts : Addr → TS}
theorem ps_try_held (hs : X.stack = X.env :: X.outer) (hf : X.env.frame = some X.env.locals) (hex : X.ex = []) (hN : X.N.Nodup) (hi : X.N[i]? = some n) (hln : X.env.kindOf n = some .local) (hc : Names X x c)
    (hb : ∀ (W : WX) (pn : List (Addr × Obj)) (xe : Value → Shared → Prop), Takes (X.tr pn xe) W → PassesOwn (model X.prog X.w) X.A X.env xe → PSs (X.tr pn xe) body (tb W))
    (hsu : ∀ (a : Addr) (pn : List (Addr × Obj)), PSs (X.suite a pn) (b₀ :: suite) (ts a)) :
    PS X (.Try body [.ExceptHandler (some (.Name x np)) (some n) (b₀ :: suite) pos'] [] [] pos) (fun D σ H => tb (wHeld X.K c i ts D) D σ H) := by
  refine ⟨fun pins s σ H D I h => ?_⟩
  have ok := I.ok
  have hfr : X.A.frames = some (X.env :: X.outer) := by rw [ok.frames, hs]
  refine wpAny_Try_except ?_
  have run := (hb (wHeld X.K c i ts D) (X.pn ++ pins) (fun e q1 => wpAny (model X.prog X.w) X.A (noteFrame e X.env) (fun _ q2 => wpAny (model X.prog X.w) X.A (setFlight e none) (fun _ q3 =>
    wpAny (model X.prog X.w) X.A (handleBy e X.env [.ExceptHandler (some (.Name x np)) (some n) (b₀ :: suite) pos']) (SP X pins D) X.xe q3) X.xe q2) X.xe q1) (fun u s' xx => ?_) PassesOwn.looking).run [] s σ H D (I.toTry _) h
  · refine wpAny_mono run (fun f q hsp => ?_) (fun _ _ z => z)
    cases f with
    | next =>
      obtain ⟨σ2, H2, J, q⟩ := hsp
      exact wpAny_execs_nil ⟨σ2, H2, J.ofTry ok, q⟩
    | brk =>
      obtain ⟨σ2, H2, J, q⟩ := hsp
      exact ⟨σ2, H2, J.ofTry ok, q⟩
    | cont =>
      obtain ⟨σ2, H2, J, q⟩ := hsp
      exact ⟨σ2, H2, J.ofTry ok, q⟩
    | ret u =>
      obtain ⟨v, σ2, H2, J, r, q⟩ := hsp
      exact ⟨v, σ2, H2, J.ofTry ok, r, q⟩
  · obtain ⟨a, B, sI, pins2, σ2, H2, cls, d, rfl, J0, nb, up, sky, na, os, ag, C, ecls, ed, hm, go⟩ := xx
    subst ecls ed
    have J : Inv X pins σ2 H2 sI := J0.ofTry ok
    have sky2 : Sky B (X.env :: X.outer) a (Zc (.ref C) none) X.env.locals s'.heap := by rw [← hs]; exact sky
    have Ba : B.get? a = none := by
      rcases sky2 with ⟨_, q, _⟩ | ⟨_, q, _⟩ | ⟨_, q, _⟩
      · exact q
      · exact q
      · exact q
    show wpAny (model X.prog X.w) X.A (noteFrame (.ref a) X.env) _ _ _
    refine Sky.land Zc.steady hfr hf sky2 fun h3 fl3 up3 => ?_
    have J3 : Inv X pins σ2 H2 { s' with heap := h3 } := J.landed nb fl3.1 (up.trans up3) os ag
    obtain ⟨oe3, vs3, he3, hz3, hd3⟩ := fl3.there
    have nfr : a ∉ frs (X.env :: X.outer) := fun hmem => by
      obtain ⟨_, o', e', hnf⟩ := fl3.2.2.1.mem hmem
      rw [he3] at e'
      cases e'
      exact hnf _ hd3
    have nI : sI.heap.get? a = none := by
      cases q : sI.heap.get? a with
      | none => rfl
      | some o =>
        have z := nb a o q (by rw [hs]; exact nfr)
        rw [Ba] at z
        cases z
    have n0 : X.s_0.heap.get? a = none := by
      cases q : X.s_0.heap.get? a with
      | none => rfl
      | some o =>
        obtain ⟨o', z⟩ := J.base.there a o q (by rw [hex]; exact fun z => nomatch z)
        rw [nI] at z
        cases z
    have nL : a ≠ X.env.locals := fun z => nfr (List.mem_filterMap.mpr ⟨X.env, List.mem_cons_self, by rw [hf, z]⟩)
    have nP : ∀ p ∈ X.pn ++ pins, p.1 ≠ a := fun p hp z => by
      have q := (J.pin p hp).1
      rw [z, nI] at q
      cases q
    have LT : PySem.W.Looks (model X.prog X.w) h3 (typeOf (.ref a)) (.ref C) := fun A Q E s k q => wpAny_typeOf_ref (k _ _ he3) (by rw [hz3.1]; exact q)
    have LM := PySem.W.exm_one (M := model X.prog X.w) J3.kIn LT hm
    have S3 := toSuite J3 a
    have test : ∀ {Q : Value → Shared → Prop} {E : Value → Shared → Prop}, Q c { s' with heap := h3 } → wpAny (model X.prog X.w) (X.A.mark (some (.ref a))) (eval (.Name x np) X.env) Q E { s' with heap := h3 } := fun {Q E} q => by
      obtain ⟨hg, hdbg, k | ⟨k, kv, kn⟩⟩ := hc
      · exact ld_glob (X := X.suite a (X.pn ++ pins)) S3 hg k q hdbg
      · exact ld_blt (X := X.suite a (X.pn ++ pins)) S3 hg k kv q kn hdbg
    refine wpAny_handleBy_cons (codeAny_handlers_test (test (LM.here (codeAny_handlers_suite_as ?_)))) (by intro q; cases q)
    refine HandSPX.lands_againZ fl3 fun h4 fl4 up4 => ?_
    have J4 : Inv X pins σ2 H2 { s' with heap := h4 } := J.landed nb fl4.1 ((up.trans up3).trans up4) os ag
    obtain ⟨oe4, vs4, he4, hz4, hd4⟩ := fl4.there
    have K4 : Inv X pins σ2 (upd H2 a (ErrO C a)) { s' with heap := h4 } := track J4 n0 na he4 hd4 nL nP (errO_ok he4 hz4 hd4)
    refine store_ok (X := X.suite a (X.pn ++ pins)) (v := .ref a) (toSuite K4 a) hN hi (.inl hln) rfl (fun s5 S5 => ?_) (.inr hln)
    refine wpAny_mono ((hsu a (X.pn ++ pins)).run [] s5 _ _ _ S5 (go a na)) (fun f s6 hsp => ?_) (fun _ _ z => False.elim z)
    have fin : ∀ {σ6 : L2.St} {H6 : Hp} {Q : Shared → Prop}, Inv (X.suite a (X.pn ++ pins)) [] σ6 H6 s6 → (∀ s7, Inv X pins (σ6.set i none) H6 s7 → Q s7) →
        wpAny (model X.prog X.w) X.A (do bindName X.env n .none; unbindBehindTheSuite X.env n pos') (fun _ s7 => Q s7) X.xe s6 := fun {σ6 H6 Q} S6 hq => gone_ok (ofSuite S6 ok) hN hi hln hq
    cases f with
    | next =>
      obtain ⟨σ6, H6, S6, q6⟩ := hsp
      exact fin S6 fun s7 J7 => ⟨_, _, J7, q6⟩
    | brk =>
      obtain ⟨σ6, H6, S6, q6⟩ := hsp
      exact fin S6 fun s7 J7 => ⟨_, _, J7, q6⟩
    | cont =>
      obtain ⟨σ6, H6, S6, q6⟩ := hsp
      exact fin S6 fun s7 J7 => ⟨_, _, J7, q6⟩
    | ret u =>
      obtain ⟨v6, σ6, H6, S6, r6, q6⟩ := hsp
      exact fin S6 fun s7 J7 => ⟨_, _, _, J7, r6, q6⟩
end
/-- isinstance(e, c), e an error that is kept -/
def rIsErr (K : PySem.W.Frag) : List V → Hp → VK → Prop := fun xs H Q => ∃ (a D : Addr) (c : V) (cv : Value) (b : Bool), xs = [.ref a, c] ∧ H a = some (ErrO D a) ∧ ExcC K D ∧ (∀ u, RelV c u → u = cv) ∧ PySem.W.kitOne K (.ref D) cv = some b ∧ Q (.bl b) H
theorem call_isErr {X : Cx} : CallR X (.builtin "isinstance") (rIsErr X.K) := by
  intro pins s σ H xs us Q I r h
  obtain ⟨a, D, c, cv, b, rfl, ha, C, hcv, e, q⟩ := h
  obtain ⟨u, w, rfl, rx, rt⟩ := vals2 r
  cases rx
  have ec := hcv _ rt
  subst ec
  obtain ⟨⟨oe, vs, hget, hz, hd⟩, _, _⟩ := I.hok a _ ha
  have J : PySem.W.InstAt s.heap a oe D none := by
    obtain ⟨oc, od, oda, osl⟩ := oe
    obtain ⟨h1, h2⟩ := hz
    dsimp only at h1 h2 hd
    subst h1 h2 hd
    exact ⟨hget, rfl, rfl, trivial⟩
  exact PySem.W.kia_one (PySem.W.handS_kitx_exc C.hg C.hk C.hs C.hd C.ha C.hn C.ht C.hm) I.kIn J e (fun z => nomatch z) fun tk => ⟨.bl b, H, I.tok tk, rfl, q⟩
/-- a local that holds a def, called in a try -/
def tCallLS (i : Nat) (f : Addr) (sp : Sp) (E : L2.St → XK) (t : TA) : TE := fun σ H Q => σ[i]? = some (some (.ref f)) ∧ t σ H fun vs H1 => sp vs H1 Q (E σ)
/-- one of several defs: the promise that goes with the address -/
structure Callee (P : Program) (w : World) (K : PySem.W.Frag) (mg : Str → Option Value) (base : Heap) (k : Nat) (f : Addr) (sp : Sp) : Prop where
  ex : ∃ (fd : FuncData) (ps : List Str), FnOk P w K mg base (L2.CX P w) k f fd ps sp ∧ PySem.W.keepIn K (.ref f) = true ∧ Binds K fd ps []
def tCallHS (i : Nat) (S : Addr → Sp → Prop) (E : L2.St → XK) (t : TA) : TE := fun σ H Q => ∃ f sp, σ[i]? = some (some (.ref f)) ∧ S f sp ∧ t σ H fun vs H1 => sp vs H1 Q (E σ)
section
variable {X : Cx} {k i : Nat} {x : Str} {p pos : Pos} {e : Expr} {es : List Expr} {t : TA} {E : L2.St → XK} {S : Addr → Sp → Prop}
theorem pe_callHS (A : ∀ f sp, S f sp → Callee X.prog X.w X.K X.mg X.base k f sp) (hr : Room k X.A) (hN : X.N[i]? = some x) (hv : Vis X.env.scope x) (hx : ∀ σ, PassesAt (L2.CX X.prog X.w) X σ (E σ)) (ha : PA X (e :: es) t)
    (hdb : (x == ("__debug__" : Str)) = false := by decide) (hcd : (x == ("__classdict__" : Str)) = false := by decide)
    (he : starEach (e :: es) X.env = (false, eval e X.env) :: starEach es X.env := by rfl) (hpl : (backTo pos (starEach es X.env)).any (·.1) = false := by rfl) : PE X (.Call (.Name x p) (e :: es) [] pos) (tCallHS i S E t) := by
  refine ⟨fun pins s σ H Q I h => ?_⟩
  obtain ⟨f, sp, hs, hS, ht⟩ := h
  obtain ⟨fd, ps, F, hk, hb⟩ := (A f sp hS).ex
  refine wpAny_Call_Name_kw (thn ((pe_var (pos := p) hN hv hdb hcd).run pins s σ H (fun v H1 => v = .ref f ∧ H1 = H) I ⟨.ref f, hs, rfl, rfl⟩) fun u s1 ⟨v, H1, I1, r1, q1⟩ => ?_)
  obtain ⟨rfl, rfl⟩ := q1
  cases r1
  refine PySem.W.callWith_K (h₀ := X.base) I.ok.mod.kin hk (thn (ha.run pos pins s1 σ _ _ I1 ht) fun us s2 ⟨vs, H2, I2, r, q⟩ => ⟨I2.kIn, ?_⟩) he hpl
  exact run_fnS F hr hb (hx σ) I2 r q
end
end LmExc

set_option maxHeartbeats 2000000
/-! Data in the heap, and what an expression evaluates to as data.
Two heaps go along: H, as it is, and a part G of it that is all the data leans on; what H knows besides (a list that is still growing) may change. -/
namespace Lm
open PySem PySem.Spec PyProof.Rows L2 Evl

mutual
/-- v reads as d -/
inductive Rp (G : Hp) : V → PyData → Prop
  | non : Rp G .non .none
  | bl (b : Bool) : Rp G (.bl b) (.bool b)
  | int (i : Int) : Rp G (.int i) (.int i)
  | str (x : Str) : Rp G (.str x) (.str x)
  | lst {a : Addr} {xs : List V} {ds : List PyData} : G a = some (.lst xs) → RpA G xs ds → Rp G (.ref a) (.list ds)
  | tup {a : Addr} {xs : List V} {ds : List PyData} : Rd G a (.tup xs) → RpA G xs ds → Rp G (.ref a) (.tuple ds)
  | dic {a : Addr} {kvs : List (Key × V)} : G a = some (.dK kvs) → Rp G (.ref a) (.dict [])
  | obj (a : Addr) : Rp G (.ref a) (.dict [(.none, .int (Int.ofNat a))])
  | frz {a : Addr} {o : Obj} {ns : List Int} {ds : List PyData} : G a = some (.frz o (.tup (ns.map V.int))) → o.dict = none → ds = ns.map .int → Rp G (.ref a) (.dict [(.bool true, .tuple ds)])
inductive RpA (G : Hp) : List V → List PyData → Prop
  | nil : RpA G [] []
  | cons {v : V} {vs : List V} {d : PyData} {ds : List PyData} : Rp G v d → RpA G vs ds → RpA G (v :: vs) (d :: ds)
end
/-- a thing that is only handed on: a def, an error -/
abbrev opq (a : Addr) : PyData := .dict [(.none, .int (Int.ofNat a))]
/-- a tuple of numbers of which the whole object is known -/
abbrev frzD (ns : List Int) : PyData := .dict [(.bool true, .tuple (ns.map .int))]
theorem rd_up {G G' : Hp} {a : Addr} {u : HO} (e : Ex G G') (h : Rd G a u) : Rd G' a u := h.elim (fun x => .inl (e _ _ x)) fun ⟨o, x⟩ => .inr ⟨o, e _ _ x⟩
section
variable {G G1 G' H H1 H2 H' : Hp}
mutual
theorem Rp.mono (e : Ex G G') : ∀ (d : PyData) (v : V), Rp G v d → Rp G' v d
  | .none, _, h => by cases h; exact .non
  | .bool b, _, h => by cases h; exact .bl b
  | .int i, _, h => by cases h; exact .int i
  | .str x, _, h => by cases h; exact .str x
  | .list ds, _, h => by
    cases h with
    | lst a b => exact .lst (e _ _ a) (RpA.mono e ds _ b)
  | .tuple ds, _, h => by
    cases h with
    | tup a b => exact .tup (rd_up e a) (RpA.mono e ds _ b)
  | .dict _, _, h => by
    cases h with
    | dic a => exact .dic (e _ _ a)
    | obj a => exact .obj a
    | frz a b c => exact .frz (e _ _ a) b c
theorem RpA.mono (e : Ex G G') : ∀ (ds : List PyData) (vs : List V), RpA G vs ds → RpA G' vs ds
  | [], _, h => by cases h; exact .nil
  | d :: ds, _, h => by
    cases h with
    | cons a b => exact .cons (Rp.mono e d _ a) (RpA.mono e ds _ b)
end
theorem Rp.up {v : V} {d : PyData} (h : Rp G v d) (e : Ex G G') : Rp G' v d := Rp.mono e d v h
theorem RpA.up {vs : List V} {ds : List PyData} (h : RpA G vs ds) (e : Ex G G') : RpA G' vs ds := RpA.mono e ds vs h
theorem RpA.len {vs : List V} {ds : List PyData} (h : RpA G vs ds) : vs.length = ds.length := by
  induction ds generalizing vs with
  | nil => cases h; rfl
  | cons d ds ih =>
    cases h with
    | cons a b => rw [List.length_cons, List.length_cons, ih b]
theorem RpA.at {ds : List PyData} : ∀ {vs : List V} {i : Nat} {d : PyData}, RpA G vs ds → ds[i]? = some d → ∃ v, vs[i]? = some v ∧ Rp G v d := by
  induction ds with
  | nil =>
    intro vs i d h e
    simp at e
  | cons c ds ih =>
    intro vs i d h e
    cases h with
    | cons a b =>
      cases i with
      | zero =>
        have e2 : c = d := by simpa using e
        subst e2
        exact ⟨_, rfl, a⟩
      | succ i =>
        obtain ⟨v, e3, r⟩ := ih b (show ds[i]? = some d by simpa using e)
        exact ⟨v, by simpa using e3, r⟩
theorem RpA.at2 {ds : List PyData} {vs : List V} {i : Nat} {v : V} (h : RpA G vs ds) (e : vs[i]? = some v) : ∃ d, ds[i]? = some d ∧ Rp G v d := by
  have hl := h.len
  have hi := (List.getElem?_eq_some_iff.mp e).1
  obtain ⟨v2, e2, r⟩ := h.at (List.getElem?_eq_getElem (l := ds) (i := i) (by omega))
  rw [e] at e2
  cases e2
  exact ⟨_, List.getElem?_eq_getElem (by omega), r⟩
theorem RpA.snoc {vs ws : List V} {ds es : List PyData} (h : RpA G vs ds) (k : RpA G ws es) : RpA G (vs ++ ws) (ds ++ es) := by
  induction ds generalizing vs with
  | nil => cases h; exact k
  | cons d ds ih =>
    cases h with
    | cons a b => exact .cons a (ih b)
theorem RpA.take {vs : List V} {ds : List PyData} (h : RpA G vs ds) (n : Nat) : RpA G (vs.take n) (ds.take n) := by
  induction ds generalizing vs n with
  | nil => cases h; rw [List.take_nil, List.take_nil]; exact .nil
  | cons d ds ih =>
    cases h with
    | cons a b =>
      cases n with
      | zero => exact .nil
      | succ n => exact .cons a (ih b n)
theorem RpA.drop {vs : List V} {ds : List PyData} (h : RpA G vs ds) (n : Nat) : RpA G (vs.drop n) (ds.drop n) := by
  induction ds generalizing vs n with
  | nil => cases h; rw [List.drop_nil, List.drop_nil]; exact .nil
  | cons d ds ih =>
    cases h with
    | cons a b =>
      cases n with
      | zero => exact .cons a b
      | succ n => exact ih b n
theorem RpA.rev {vs : List V} {ds : List PyData} (h : RpA G vs ds) : RpA G vs.reverse ds.reverse := by
  induction ds generalizing vs with
  | nil => cases h; exact .nil
  | cons d ds ih =>
    cases h with
    | cons a b =>
      rw [List.reverse_cons, List.reverse_cons]
      exact (ih b).snoc (.cons a .nil)
theorem RpA.ints : ∀ {ns : List Int} {vs : List V}, RpA G vs (ns.map PyData.int) → vs = ns.map V.int
  | [], _, h => by cases h; rfl
  | n :: ns, _, h => by
    cases h with
    | cons a b =>
      cases a
      rw [RpA.ints b]
      rfl
theorem RpA.ofInts : ∀ (ns : List Int), RpA G (ns.map V.int) (ns.map PyData.int)
  | [] => .nil
  | n :: ns => .cons (.int n) (RpA.ofInts ns)
theorem RpA.bools : ∀ {ns : List Bool} {vs : List V}, RpA G vs (ns.map PyData.bool) → vs = ns.map V.bl
  | [], _, h => by cases h; rfl
  | n :: ns, _, h => by
    cases h with
    | cons a b =>
      cases a
      rw [RpA.bools b]
      rfl
/-- a frozen tuple is a tuple -/
theorem Rp.thaw {v : V} {ns : List Int} (h : Rp G v (frzD ns)) : Rp G v (.tuple (ns.map .int)) := by
  cases h with
  | frz x y z =>
    rw [z]
    exact .tup (.inr ⟨_, x⟩) (RpA.ofInts _)
/-- the scalars -/
def sc : PyData → Option V
  | .none => some .non
  | .bool b => some (.bl b)
  | .int i => some (.int i)
  | .str x => some (.str x)
  | _ => none
theorem Rp.sc {v w : V} {d : PyData} (h : Rp G v d) (e : sc d = some w) : v = w := by
  cases h <;> first | exact Option.some.inj e | cases e
theorem Rp.ofSc {v : V} {d : PyData} (e : Lm.sc d = some v) : Rp G v d := by
  cases d with
  | none => cases e; exact .non
  | bool b => cases e; exact .bl b
  | int i => cases e; exact .int i
  | str x => cases e; exact .str x
  | list _ => cases e
  | tuple _ => cases e
  | dict _ => cases e
mutual
/-- .. as the library's deep comparison wants it -/
theorem Rp.dp {K : PySem.W.Frag} (e : Ex G H) : ∀ (d : PyData) (v : V), d.canLay0 = true → Rp G v d → Dp K H v d
  | .none, _, _, h => by cases h; exact .non
  | .bool b, _, _, h => by cases h; exact .bl b
  | .int i, _, _, h => by cases h; exact .int i
  | .str x, _, _, h => by cases h; exact .str x
  | .list ds, _, hc, h => by
    cases h with
    | lst a b => exact .lst (.inl (.inl (e _ _ a))) (RpA.dp e ds _ (by simpa [PyData.canLay0] using hc) b)
  | .tuple ds, _, hc, h => by
    cases h with
    | tup a b => exact .tup (.inl (rd_up e a)) (RpA.dp e ds _ (by simpa [PyData.canLay0] using hc) b)
  | .dict _, _, hc, h => by simp [PyData.canLay0] at hc
theorem RpA.dp {K : PySem.W.Frag} (e : Ex G H) : ∀ (ds : List PyData) (vs : List V), PyData.canLayAll0 ds = true → RpA G vs ds → DpAll K H vs ds
  | [], _, _, h => by cases h; exact .nil
  | d :: ds, _, hc, h => by
    have hc' : d.canLay0 = true ∧ PyData.canLayAll0 ds = true := by simpa [PyData.canLayAll0] using hc
    cases h with
    | cons a b => exact .cons (Rp.dp e d _ hc'.1 a) (RpA.dp e ds _ hc'.2 b)
end

/-! ### parts of heaps -/
/-- from the part G of H on to the part G' of H': what is new in G' is new since H -/
structure Part (G H G' H' : Hp) : Prop where
  ext : Ex G G'
  sub : Ex G' H'
  old : Ex H H'
  new : ∀ a o, G' a = some o → G a = none → H a = none
theorem Part.refl (e : Ex G H) : Part G H G H := ⟨Ex.refl G, e, Ex.refl H, fun a o h n => by rw [h] at n; cases n⟩
theorem Part.trans (p : Part G H G1 H1) (q : Part G1 H1 G' H') : Part G H G' H' where
  ext := p.ext.trans q.ext
  sub := q.sub
  old := p.old.trans q.old
  new := fun a o h n => by
    cases e : G1 a with
    | some u => exact p.new a u e n
    | none => exact fresh_back p.old (q.new a o h e)
/-- H goes on, G stays -/
theorem Part.on (p : Part G H G' H1) (e : Ex H1 H') : Part G H G' H' := ⟨p.ext, p.sub.trans e, p.old.trans e, p.new⟩
theorem Part.add {a : Addr} {o : HO} (p : Part G H G' H') (n : H' a = none) : Part G H (upd G' a o) (upd H' a o) where
  ext := p.ext.trans (Ex.new (fresh_back p.sub n))
  sub := fun b u h => by
    by_cases e : b = a
    · subst e
      rw [upd_same] at h ⊢
      exact h
    · rw [upd_ne e] at h ⊢
      exact p.sub b u h
  old := p.old.trans (Ex.new n)
  new := fun b u h k => by
    by_cases e : b = a
    · subst e
      exact fresh_back p.old n
    · rw [upd_ne e] at h
      exact p.new b u h k
def join (A B : Hp) : Hp := fun a => match A a with
  | some o => some o
  | none => B a
theorem ex_join1 {A B : Hp} : Ex A (join A B) := fun a o h => by
  unfold join
  rw [h]
theorem ex_join2 {A B C : Hp} (h1 : Ex A C) (h2 : Ex B C) : Ex B (join A B) := fun a o h => by
  unfold join
  cases e : A a with
  | none => exact h
  | some u =>
    have q := h1 a u e
    rw [h2 a o h] at q
    exact q.symm
theorem ex_join {A B C : Hp} (h1 : Ex A C) (h2 : Ex B C) : Ex (join A B) C := fun a o h => by
  unfold join at h
  cases e : A a with
  | none =>
    rw [e] at h
    exact h2 a o h
  | some u =>
    rw [e] at h
    have q := Option.some.inj h
    rw [← q]
    exact h1 a u e
/-- the base may be greater -/
theorem Part.wide (p : Part G H G' H') (e : Ex G G1) (s : Ex G1 H) : Part G1 H (join G1 G') H' where
  ext := ex_join1
  sub := ex_join (s.trans p.old) p.sub
  old := p.old
  new := fun a o h n => by
    unfold join at h
    rw [n] at h
    exact p.new a o h (fresh_back e n)
theorem Part.wide_up (p : Part G H G' H') (e : Ex G G1) (s : Ex G1 H) : Ex G' (join G1 G') := ex_join2 (s.trans p.old) p.sub
end

/-! ### evaluation -/
def EvD (te : TE) (σ : L2.St) (G : Hp) (d : PyData) : Prop := ∀ H, Ex G H → ∀ Q : VK, (∀ v G' H', Part G H G' H' → Rp G' v d → Q v H') → te σ H Q
def EdA (ta : TA) (σ : L2.St) (G : Hp) (ds : List PyData) : Prop := ∀ H, Ex G H → ∀ Q : List V → Hp → Prop, (∀ vs G' H', Part G H G' H' → RpA G' vs ds → Q vs H') → ta σ H Q
section
variable {K : PySem.W.Frag} {σ : L2.St} {G G1 G' H H' : Hp} {ta tb te : TE} {tr : TA} {t u : TT} {d e : PyData} {ds es : List PyData} {v w : V}
theorem EvD.mono (x : Ex G G1) (h : EvD te σ G d) : EvD te σ G1 d := fun H s Q q =>
  h H (x.trans s) Q fun v G' H' p r => q v (join G1 G') H' (p.wide x s) (r.up (p.wide_up x s))
theorem EdA.mono (x : Ex G G1) (h : EdA tr σ G ds) : EdA tr σ G1 ds := fun H s Q q =>
  h H (x.trans s) Q fun v G' H' p r => q v (join G1 G') H' (p.wide x s) (r.up (p.wide_up x s))
theorem EvD.ev (h : EvD te σ G d) (e : sc d = some v) : Ev te σ G v := fun H x Q q => h H x Q fun w G' H' p r => by
  rw [r.sc e]
  exact q H' p.old
theorem ofEv (h : Ev te σ G v) (e : sc d = some v) : EvD te σ G d := fun H x Q q => h H x Q fun H' k => q v G H' ((Part.refl x).on k) (Rp.ofSc e)
theorem EvD.is (h : EvD te σ G d) (x : d = e) : EvD te σ G e := x ▸ h
theorem ed_var {i : Nat} (h : σ[i]? = some (some v)) (r : Rp G v d) : EvD (tVar i) σ G d := fun H x Q q => ⟨v, h, q v G H (Part.refl x) r⟩
theorem ed_c (e : sc d = some v) : EvD (tC v) σ G d := ofEv ev_c e
theorem ed_int {i : Int} : EvD (tC (.int i)) σ G (.int i) := ed_c rfl
theorem ed_bl {b : Bool} : EvD (tC (.bl b)) σ G (.bool b) := ed_c rfl
theorem ed_str {b : Str} : EvD (tC (.str b)) σ G (.str b) := ed_c rfl
theorem ed_non : EvD (tC .non) σ G .none := ed_c rfl
theorem ea_nil : EdA tNil σ G [] := fun H x Q q => q [] G H (Part.refl x) .nil
theorem ea_cons (h : EvD ta σ G d) (k : EdA tr σ G ds) : EdA (tCons ta tr) σ G (d :: ds) := fun H x Q q =>
  h H x _ fun v G1 H1 p r => (k.mono p.ext) H1 p.sub _ fun vs G2 H2 p2 rs => q (v :: vs) G2 H2 (p.trans p2) (.cons (r.up p2.ext) rs)
theorem ed_tup (h : EdA tr σ G ds) (hl : ds.length ≤ 100000) : EvD (tTup tr) σ G (.tuple ds) := fun H x Q q =>
  h H x _ fun vs G1 H1 p r => ⟨by rw [r.len]; exact sz_of hl, fun a n => q _ _ _ (p.add n) (.tup (.inl upd_same) (r.up (Ex.new (fresh_back p.sub n))))⟩
theorem ed_lst (h : EdA tr σ G ds) (hl : ds.length ≤ 100000) : EvD (tLst tr) σ G (.list ds) := fun H x Q q =>
  h H x _ fun vs G1 H1 p r => ⟨by rw [r.len]; exact sz_of hl, fun a n => q _ _ _ (p.add n) (.lst upd_same (r.up (Ex.new (fresh_back p.sub n))))⟩
/-! operators of ints -/
theorem ed_i0 {g : Int → Int → V} {i j : Int} (h : EvD ta σ G (.int i)) (k : EvD tb σ G (.int j)) (e : sc d = some (g i j)) : EvD (tOp (rI0 g) ta tb) σ G d := ofEv (ev_op (h.ev rfl) (k.ev rfl) rv_I0) e
theorem ed_iC {C : Int → Int → Prop} {g : Int → Int → V} {i j : Int} (h : EvD ta σ G (.int i)) (k : EvD tb σ G (.int j)) (c : C i j) (e : sc d = some (g i j)) : EvD (tOp (rI C g) ta tb) σ G d := ofEv (ev_op (h.ev rfl) (k.ev rfl) (rv_I c)) e
theorem ed_neg {i : Int} (h : EvD ta σ G (.int i)) : EvD (tUn (rU fun i => .int (-i)) ta) σ G (.int (-i)) := ofEv (ev_un (h.ev rfl) ru_neg) rfl
/-! == and != of any data -/
theorem ed_eq (h : EvD ta σ G d) (k : EvD tb σ G e) (s1 : SeqAt.shaped d = true) (s2 : SeqAt.shaped e = true) : EvD (tOp (rEqD K) ta tb) σ G (.bool (PyData.eqv d e)) := fun H x Q q =>
  h H x _ fun v G1 H1 p r => (k.mono p.ext) H1 p.sub _ fun w G2 H2 p2 r2 =>
    ⟨d, e, Rp.dp p2.sub d v (SeqAt.canLay_of_shaped s1) (r.up p2.ext), Rp.dp p2.sub e w (SeqAt.canLay_of_shaped s2) r2, s1, s2, q _ G2 H2 (p.trans p2) (.bl _)⟩
theorem ed_ne (h : EvD ta σ G d) (k : EvD tb σ G e) (s1 : SeqAt.shaped d = true) (s2 : SeqAt.shaped e = true) : EvD (tOp (rNeD K) ta tb) σ G (.bool (!PyData.eqv d e)) := fun H x Q q =>
  h H x _ fun v G1 H1 p r => (k.mono p.ext) H1 p.sub _ fun w G2 H2 p2 r2 =>
    ⟨d, e, Rp.dp p2.sub d v (SeqAt.canLay_of_shaped s1) (r.up p2.ext), Rp.dp p2.sub e w (SeqAt.canLay_of_shaped s2) r2, s1, s2, q _ G2 H2 (p.trans p2) (.bl _)⟩
/-! is None -/
def isN : PyData → Bool
  | .none => true
  | _ => false
theorem ed_isN (h : EvD ta σ G d) : EvD (tIsN ta) σ G (.bool (isN d)) := fun H x Q q =>
  h H x _ fun v G1 H1 p r => by
    have e : decide (v = V.non) = isN d := by cases r <;> rfl
    show Q (.bl (decide (v = V.non))) H1
    rw [e]
    exact q _ G1 H1 p (.bl _)
/-! places -/
theorem atI_at {α β : Type} {xs : List α} {ys : List β} (hl : xs.length = ys.length) {i : Int} {y : β} (h : atI ys i = some y) : ∃ j : Nat, ys[j]? = some y ∧ ∀ x : α, xs[j]? = some x → atI xs i = some x := by
  unfold atI at h ⊢
  rw [hl]
  cases q : ixN ys.length i with
  | none => rw [q] at h; cases h
  | some j =>
    rw [q] at h
    exact ⟨j, h, fun x e => e⟩
theorem ed_ixL {i : Int} (h : EvD ta σ G (.list ds)) (k : EvD tb σ G (.int i)) (e : atI ds i = some d) : EvD (tOp (rIxL K) ta tb) σ G d := fun H x Q q =>
  h H x _ fun v G1 H1 p r => (k.mono p.ext) H1 p.sub _ fun w G2 H2 p2 r2 => by
    cases r with
    | lst a b =>
      cases r2
      obtain ⟨j, e1, e2⟩ := atI_at b.len e
      obtain ⟨v, e3, r3⟩ := b.at e1
      exact ⟨_, _, i, v, rfl, rfl, .inl (.inl (p2.sub _ _ (p2.ext _ _ a))), e2 v e3, q v G2 H2 (p.trans p2) (r3.up p2.ext)⟩
theorem ed_ixT {i : Int} (h : EvD ta σ G (.tuple ds)) (k : EvD tb σ G (.int i)) (e : atI ds i = some d) : EvD (tOp (rIxT K) ta tb) σ G d := fun H x Q q =>
  h H x _ fun v G1 H1 p r => (k.mono p.ext) H1 p.sub _ fun w G2 H2 p2 r2 => by
    cases r with
    | tup a b =>
      cases r2
      obtain ⟨j, e1, e2⟩ := atI_at b.len e
      obtain ⟨v, e3, r3⟩ := b.at e1
      exact ⟨_, _, i, v, rfl, rfl, .inl (rd_up (p2.ext.trans p2.sub) a), e2 v e3, q v G2 H2 (p.trans p2) (r3.up p2.ext)⟩
/-! built-ins -/
theorem ed_lenL (h : EvD ta σ G (.list ds)) : EvD (tCB (rLenS K) (tCons ta tNil)) σ G (.int (ds.length : Nat)) := fun H x Q q =>
  h H x _ fun v G1 H1 p r => by
    cases r with
    | lst a b =>
      refine ⟨_, _, rfl, .inl (.inl (.inl (p.sub _ _ a))), ?_⟩
      rw [b.len]
      exact q _ G1 H1 p (.int _)
theorem ed_lenT (h : EvD ta σ G (.tuple ds)) : EvD (tCB (rLenS K) (tCons ta tNil)) σ G (.int (ds.length : Nat)) := fun H x Q q =>
  h H x _ fun v G1 H1 p r => by
    cases r with
    | tup a b =>
      refine ⟨_, _, rfl, .inr (.inl (rd_up p.sub a)), ?_⟩
      rw [b.len]
      exact q _ G1 H1 p (.int _)
theorem ed_listL (h : EvD ta σ G (.list ds)) : EvD (tCB (rListS K) (tCons ta tNil)) σ G (.list ds) := fun H x Q q =>
  h H x _ fun v G1 H1 p r => by
    cases r with
    | lst a b => exact ⟨_, _, rfl, .inl (.inl (.inl (p.sub _ _ a))), fun l n => q _ _ _ (p.add n) (.lst upd_same (b.up (Ex.new (fresh_back p.sub n))))⟩
theorem ed_listT (h : EvD ta σ G (.tuple ds)) : EvD (tCB (rListS K) (tCons ta tNil)) σ G (.list ds) := fun H x Q q =>
  h H x _ fun v G1 H1 p r => by
    cases r with
    | tup a b => exact ⟨_, _, rfl, .inr (.inl (rd_up p.sub a)), fun l n => q _ _ _ (p.add n) (.lst upd_same (b.up (Ex.new (fresh_back p.sub n))))⟩
theorem ed_tupleL (h : EvD ta σ G (.list ds)) : EvD (tThen ta (kTup K)) σ G (.tuple ds) := fun H x Q q =>
  h H x _ fun v G1 H1 p r => by
    cases r with
    | lst a b => exact .inl ⟨_, _, rfl, .inl (.inl (p.sub _ _ a)), fun l n => q _ _ _ (p.add n) (.tup (.inl upd_same) (b.up (Ex.new (fresh_back p.sub n))))⟩
theorem ed_sum {ns : List Int} (h : EvD ta σ G (.list (ns.map .int))) : EvD (tCB (rSum K) (tCons ta tNil)) σ G (.int ns.sum) := fun H x Q q =>
  h H x _ fun v G1 H1 p r => by
    cases r with
    | lst a b =>
      have e := b.ints
      subst e
      exact ⟨_, ns, rfl, .inl (.inl (p.sub _ _ a)), q _ G1 H1 p (.int _)⟩
theorem ed_all {bs : List Bool} (h : EvD ta σ G (.list (bs.map .bool))) : EvD (tCB (rAll K) (tCons ta tNil)) σ G (.bool (bs.all id)) := fun H x Q q =>
  h H x _ fun v G1 H1 p r => by
    cases r with
    | lst a b =>
      have e := b.bools
      subst e
      exact ⟨_, bs, rfl, .inl (.inl (p.sub _ _ a)), q _ G1 H1 p (.bl _)⟩
/-- ints in rising order -/
theorem ed_sorted {ns ms : List Int} (h : EvD ta σ G (.list (ns.map .int))) (hs : ∀ ks : List Int, ks.Perm ns → ks.Pairwise (· ≤ ·) → ks = ms) : EvD (tCB (rSortedI K) (tCons ta tNil)) σ G (.list (ms.map .int)) := fun H x Q q =>
  h H x _ fun v G1 H1 p r => by
    cases r with
    | lst a b =>
      have e := b.ints
      subst e
      refine ⟨_, ns, rfl, .inl (.inl (p.sub _ _ a)), fun ks l k1 k2 n => ?_⟩
      rw [hs ks k1 k2]
      exact q _ _ _ (p.add n) (.lst upd_same (RpA.ofInts ms))
theorem ed_rev (h : EvD ta σ G (.list ds)) : EvD (tRevL K ta) σ G (.list ds.reverse) := fun H x Q q =>
  h H x _ fun v G1 H1 p r => by
    cases r with
    | lst a b => exact ⟨_, _, rfl, .inl (.inl (p.sub _ _ a)), fun l n => q _ _ _ (p.add n) (.lst upd_same (b.rev.up (Ex.new (fresh_back p.sub n))))⟩
theorem ed_catL (h : EvD ta σ G (.list ds)) (k : EvD tb σ G (.list es)) (hl : ds.length + es.length ≤ 100000) : EvD (tOp rCat ta tb) σ G (.list (ds ++ es)) := fun H x Q q =>
  h H x _ fun v G1 H1 p r => (k.mono p.ext) H1 p.sub _ fun w G2 H2 p2 r2 => by
    cases r with
    | lst a b =>
      cases r2 with
      | lst a2 b2 =>
        refine ⟨_, _, _, _, rfl, rfl, p2.sub _ _ (p2.ext _ _ a), p2.sub _ _ a2, by rw [b.len, b2.len]; exact sz_of hl, fun l n => ?_⟩
        exact q _ _ _ ((p.trans p2).add n) (.lst upd_same (((b.up p2.ext).snoc b2).up (Ex.new (fresh_back p2.sub n))))
theorem ed_catT (h : EvD ta σ G (.tuple ds)) (k : EvD tb σ G (.tuple es)) (hl : ds.length + es.length ≤ 100000) : EvD (tOp (rCatA K) ta tb) σ G (.tuple (ds ++ es)) := fun H x Q q =>
  h H x _ fun v G1 H1 p r => (k.mono p.ext) H1 p.sub _ fun w G2 H2 p2 r2 => by
    cases r with
    | tup a b =>
      cases r2 with
      | tup a2 b2 =>
        refine ⟨_, _, _, _, rfl, rfl, .inl (rd_up (p2.ext.trans p2.sub) a), .inl (rd_up p2.sub a2), by rw [b.len, b2.len]; exact sz_of hl, fun e => ?_, fun _ e => ?_, fun _ _ l n => ?_⟩
        · have hd : ds = [] := by
            have := b.len
            rw [e] at this
            exact List.length_eq_zero_iff.mp this.symm
          subst hd
          exact q _ _ _ (p.trans p2) (.tup a2 b2)
        · have hd : es = [] := by
            have := b2.len
            rw [e] at this
            exact List.length_eq_zero_iff.mp this.symm
          subst hd
          exact q _ _ _ (p.trans p2) (by rw [List.append_nil]; exact .tup (rd_up p2.ext a) (b.up p2.ext))
        · exact q _ _ _ ((p.trans p2).add n) (.tup (.inl upd_same) (((b.up p2.ext).snoc b2).up (Ex.new (fresh_back p2.sub n))))
theorem rep_rp {xs : List V} (b : RpA G xs ds) : ∀ n : Nat, RpA G (List.replicate n xs).flatten (List.replicate n ds).flatten
  | 0 => .nil
  | n + 1 => by
    rw [List.replicate_succ, List.replicate_succ, List.flatten_cons, List.flatten_cons]
    exact b.snoc (rep_rp b n)
theorem ed_repT {k : Int} (h : EvD ta σ G (.tuple ds)) (hk : EvD tb σ G (.int k)) (c : ds ≠ [] ∧ 2 ≤ k ∧ k ≤ 1000 ∧ ds.length ≤ 1000) : EvD (tOp (rRepT K) ta tb) σ G (.tuple (List.replicate k.toNat ds).flatten) := fun H x Q q =>
  h H x _ fun v G1 H1 p r => (hk.mono p.ext) H1 p.sub _ fun w G2 H2 p2 r2 => by
    cases r with
    | tup a b =>
      cases r2
      refine ⟨_, k, _, rfl, rfl, .inl (rd_up (p2.ext.trans p2.sub) a), fun e => c.1 ?_, c.2.1, c.2.2.1, by rw [b.len]; exact c.2.2.2, fun l n => ?_⟩
      · have := b.len
        rw [e] at this
        exact List.length_eq_zero_iff.mp this.symm
      · exact q _ _ _ ((p.trans p2).add n) (.tup (.inl upd_same) ((rep_rp (b.up p2.ext) k.toNat).up (Ex.new (fresh_back p2.sub n))))
/-! slices -/
def cutD (ds : List PyData) (lo hi : Option Int) : List PyData := (ds.drop (HT.sIx ds.length 0 lo)).take (HT.sIx ds.length ds.length hi - HT.sIx ds.length 0 lo)
theorem cut_rp {xs : List V} (b : RpA G xs ds) (lo hi : Option Int) : RpA G (cutV xs lo hi) (cutD ds lo hi) := by
  unfold cutV cutD
  rw [b.len]
  exact (b.drop _).take _
theorem ed_slL {tl th : TO} {lo hi : Option Int} (h : EvD te σ G (.list ds)) (h1 : EvO tl σ G lo) (h2 : EvO th σ G hi) : EvD (tSl (rSlL K) te tl th) σ G (.list (cutD ds lo hi)) := fun H x Q q =>
  h H x _ fun v G1 H1 p r => h1 H1 (x.trans p.old) _ fun H2 e2 => h2 H2 ((x.trans p.old).trans e2) _ fun H3 e3 => by
    cases r with
    | lst a b =>
      have p3 := p.on (e2.trans e3)
      exact ⟨_, _, rfl, .inl (.inl (p3.sub _ _ a)), fun l n => q _ _ _ (p3.add n) (.lst upd_same ((cut_rp b lo hi).up (Ex.new (fresh_back p3.sub n))))⟩
theorem cut_whole (lo hi : Option Int) (c : HT.sIx ds.length 0 lo = 0 ∧ HT.sIx ds.length ds.length hi = ds.length) : cutD ds lo hi = ds := by
  unfold cutD
  rw [c.1, c.2]
  simp
theorem ed_slT {tl th : TO} {lo hi : Option Int} (h : EvD te σ G (.tuple ds)) (h1 : EvO tl σ G lo) (h2 : EvO th σ G hi) : EvD (tSl (rSlA K) te tl th) σ G (.tuple (cutD ds lo hi)) := fun H x Q q =>
  h H x _ fun v G1 H1 p r => h1 H1 (x.trans p.old) _ fun H2 e2 => h2 H2 ((x.trans p.old).trans e2) _ fun H3 e3 => by
    cases r with
    | tup a b =>
      have p3 := p.on (e2.trans e3)
      refine ⟨_, _, rfl, .inl (rd_up p3.sub a), fun c => ?_, fun _ l n => ?_⟩
      · rw [b.len] at c
        exact q _ _ _ p3 (by rw [cut_whole lo hi c]; exact .tup a b)
      · exact q _ _ _ (p3.add n) (.tup (.inl upd_same) ((cut_rp b lo hi).up (Ex.new (fresh_back p3.sub n))))
/-! tests -/
theorem et_of {b : Bool} (h : EvD te σ G (.bool b)) : EvT (tB te) σ G b := et_B (h.ev rfl)
theorem et_of' {b : Bool} (h : EvD te σ G (.bool b)) : EvT (tTest te) σ G b := et_test (h.ev rfl)
theorem ed_andV {a b : Bool} (h1 : EvD ta σ G (.bool a)) (h2 : a = true → EvD tb σ G (.bool b)) : EvD (tAndV ta tb) σ G (.bool (a && b)) := ofEv (ev_andV (h1.ev rfl) fun e => (h2 e).ev rfl) rfl
theorem ed_orV {a b : Bool} (h1 : EvD ta σ G (.bool a)) (h2 : a = false → EvD tb σ G (.bool b)) : EvD (tOrV ta tb) σ G (.bool (a || b)) := ofEv (ev_orV (h1.ev rfl) fun e => (h2 e).ev rfl) rfl
theorem ed_notV {a : Bool} (h1 : EvD ta σ G (.bool a)) : EvD (tNotV ta) σ G (.bool (!a)) := ofEv (ev_notV (h1.ev rfl)) rfl
theorem ed_if {b : Bool} (h : EvT t σ G b) (h1 : b = true → EvD ta σ G d) (h2 : b = false → EvD tb σ G d) : EvD (tIf t ta tb) σ G d := fun H x Q q => h H x _ fun H1 e1 => by
  cases b with
  | true => exact h1 rfl H1 (x.trans e1) Q fun v G' H' p r => q v G' H' ⟨p.ext, p.sub, e1.trans p.old, fun a o k n => fresh_back e1 (p.new a o k n)⟩ r
  | false => exact h2 rfl H1 (x.trans e1) Q fun v G' H' p r => q v G' H' ⟨p.ext, p.sub, e1.trans p.old, fun a o k n => fresh_back e1 (p.new a o k n)⟩ r
/-! type(x) -/
def tyD : PyData → Option String
  | .none => some "NoneType"
  | .bool _ => some "bool"
  | .int _ => some "int"
  | .str _ => some "str"
  | .list _ => some "list"
  | .tuple _ => some "tuple"
  | .dict [] => some "dict"
  | .dict _ => none
theorem Rp.ty {T : String} (h : Rp G v d) (e : tyD d = some T) : LmType.TyA G v T := by
  cases h with
  | non => cases e; exact .non
  | bl b => cases e; exact .bl b
  | int b => cases e; exact .int b
  | str b => cases e; exact .str b
  | lst a b => cases e; exact .lst a
  | tup a b => cases e; exact .tup a
  | dic a => cases e; exact .dic a
  | obj a => cases e
  | frz a b c => cases e
theorem tyA_up {x : V} {T : String} (h : LmType.TyA G x T) (e : Ex G H) : LmType.TyA H x T := by
  cases h with
  | non => exact .non
  | bl b => exact .bl b
  | int b => exact .int b
  | str b => exact .str b
  | lst a => exact .lst (e _ _ a)
  | tup a => exact .tup (rd_up e a)
  | dic a => exact .dic (e _ _ a)
theorem ev_type {T : String} (h : EvD ta σ G d) (e : tyD d = some T) : Ev (tCB LmType.rType (tCons ta tNil)) σ G (.ty T) := fun H x Q q =>
  h H x _ fun v G1 H1 p r => ⟨v, T, rfl, tyA_up (r.ty e) p.sub, q H1 p.old⟩
theorem ed_tyEq {S T : String} (h : Ev ta σ G (.ty S)) (k : Ev tb σ G (.ty T)) (hS : LmType.Known S) (hT : LmType.Known T) : EvD (tOp LmType.rEqTy ta tb) σ G (.bool (decide (S = T))) :=
  ofEv (ev_op h k (rv_val fun H1 _ Q q => ⟨S, T, rfl, rfl, hS, hT, q⟩)) rfl
theorem ed_tyNe {S T : String} (h : Ev ta σ G (.ty S)) (k : Ev tb σ G (.ty T)) (hS : LmType.Known S) (hT : LmType.Known T) : EvD (tOp LmType.rNeTy ta tb) σ G (.bool (!decide (S = T))) :=
  ofEv (ev_op h k (rv_val fun H1 _ Q q => ⟨S, T, rfl, rfl, hS, hT, q⟩)) rfl
/-! isinstance(x, a built-in class) -/
theorem Rp.tyOf {T : String} (h : Rp G v d) (e : tyD d = some T) : TyX K G v (.type T) := by
  cases h with
  | non => cases e; exact .base .non
  | bl b => cases e; exact .base (.bl b)
  | int b => cases e; exact .base (.int b)
  | str b => cases e; exact .base (.str b)
  | lst a b => cases e; exact .base (.lst a)
  | tup a b =>
    cases e
    rcases a with a | ⟨o, a⟩
    · exact .base (.tup a)
    · exact .fTuple a
  | dic a => cases e; exact .base (.dK a)
  | obj a => cases e
  | frz a b c => cases e
theorem ed_isInst {T S : String} {b : Bool} (h : EvD ta σ G d) (k : Ev tb σ G (.ty S)) (e : tyD d = some T) (hb : kitB T S = some b) : EvD (tCB (rIsi K) (tCons ta (tCons tb tNil))) σ G (.bool b) := fun H x Q q =>
  h H x _ fun v G1 H1 p r => k H1 (x.trans p.old) _ fun H2 e2 => ⟨v, .ty S, .type T, .type S, b, rfl, .ty S, (r.up (p.sub.trans e2)).tyOf e, kit_ty hb, q _ G1 H2 (p.on e2) (.bl _)⟩
theorem ed_intB {b : Bool} (h : EvD ta σ G (.bool b)) : EvD (tCB (fun xs H Q => (∃ i, xs = [.int i] ∧ Q (.int i) H) ∨ ∃ k, xs = [.bl k] ∧ Q (.int (if k then 1 else 0)) H) (tCons ta tNil)) σ G (.int (if b then 1 else 0)) := fun H x Q q =>
  h H x _ fun v G1 H1 p r => by
    cases r
    exact .inr ⟨b, rfl, q _ G1 H1 p (.int _)⟩
end
end Lm

set_option maxHeartbeats 2000000
/-! Promises, calls, statements, comprehensions and loops over data. -/
namespace Lm
open PySem PySem.Spec PyProof.Rows L2 Evl

/-- how a def ends: a value, or an error of the class at C -/
inductive Out where
  | val (d : PyData)
  | err (C : Addr)
/-- what is wanted at that end, from the part G of H on -/
def Want (o : Out) (G H : Hp) (Q : VK) (E : XK) : Prop := match o with
  | .val d => ∀ v G' H', Part G H G' H' → Rp G' v d → Q v H'
  | .err C => ∀ H', Ex H H' → E (.ref C) none H'
section
variable {K : PySem.W.Frag} {σ : L2.St} {G G0 G1 G' H H0 H' : Hp} {ta tb te : TE} {tr : TA} {t u : TT} {d e : PyData} {ds es : List PyData} {v w : V} {o : Out} {Q : VK} {E : XK} {D : Ends} {tu tw tz : TS}
theorem Want.go (q : Want o G0 H0 Q E) (p : Part G0 H0 G H) : Want o G H Q E := by
  cases o with
  | val d => exact fun v G' H' p2 r => q v G' H' (p.trans p2) r
  | err C => exact fun H' x => q H' (p.old.trans x)
/-- THE PROMISE of a def over data: r tells the end by the arguments -/
def spO (r : List PyData → Out → Prop) : Sp := fun vs H Q E => ∃ G ds o, Ex G H ∧ RpA G vs ds ∧ r ds o ∧ Want o G H Q E
def EvX (te : TE) (E : XK) (σ : L2.St) (G : Hp) (o : Out) : Prop := ∀ H, Ex G H → ∀ Q : VK, Want o G H Q E → te σ H Q
theorem EvD.x (h : EvD te σ G d) : EvX te E σ G (.val d) := fun H x Q q => h H x Q q
theorem EvX.toD (h : EvX te E σ G (.val d)) : EvD te σ G d := fun H x Q q => h H x Q q
theorem ex_call {r : List PyData → Out → Prop} (h : EdA tr σ G ds) (hr : r ds o) : EvX (tCall (spO r) [] E tr) E σ G o := fun H x Q q =>
  h H x _ fun vs G1 H1 p rs => ⟨G1, ds, o, p.sub, by rw [List.append_nil]; exact rs, hr, q.go p⟩
theorem ed_call {r : List PyData → Out → Prop} (h : EdA tr σ G ds) (hr : r ds (.val d)) : EvD (tCall (spO r) [] E tr) σ G d := EvX.toD (E := E) (ex_call h hr)

/-! ### statements -/
theorem d_asg {i : Nat} (P : Part G0 H0 G H) (h : EvD te σ G d) (k : ∀ v G' H', Part G0 H0 G' H' → Ex G G' → Ex H H' → Rp G' v d → tz D (σ.set i (some v)) H') : tSeq (tAsg te (gName i)) tz D σ H :=
  h H P.sub _ fun v G' H' p r => k v G' H' (P.trans p) p.ext p.old r
theorem d_asg1 {i : Nat} (P : Part G0 H0 G H) (h : EvD te σ G d) (k : ∀ v G' H', Part G0 H0 G' H' → Ex G G' → Ex H H' → Rp G' v d → D.nx (σ.set i (some v)) H') : tAsg te (gName i) D σ H :=
  h H P.sub _ fun v G' H' p r => k v G' H' (P.trans p) p.ext p.old r
/-- .. of a number, a truth, a text, None -/
theorem d_asgS {i : Nat} (P : Part G0 H0 G H) (h : EvD te σ G d) (e : sc d = some v) (k : ∀ H', Part G0 H0 G H' → Ex H H' → tz D (σ.set i (some v)) H') : tSeq (tAsg te (gName i)) tz D σ H :=
  (h.ev e) H P.sub _ fun H' x => k H' (P.on x) x
theorem d_ret (P : Part G0 H0 G H) (h : EvX te E σ G o) (q : Want o G0 H0 D.rt E) : tRet te D σ H := h H P.sub _ (q.go P)
theorem d_retD (P : Part G0 H0 G H) (h : EvD te σ G d) (q : Want (.val d) G0 H0 D.rt E) : tRet te D σ H := h H P.sub _ (q.go P)
theorem d_drop {d : PyData} (P : Part G0 H0 G H) (h : EvX te E σ G o) (k : ∀ d, o = .val d → ∀ H', Part G0 H0 G H' → Ex H H' → tz D σ H') (q : ∀ C, o = .err C → ∀ H', Ex H0 H' → E (.ref C) none H') : tSeq (tDrop te) tz D σ H :=
  h H P.sub _ (by
    cases o with
    | val d => exact fun v G' H' p r => k d rfl H' (P.on p.old) p.old
    | err C => exact fun H' x => q C rfl H' (P.old.trans x))
theorem d_if {b : Bool} (P : Part G0 H0 G H) (h : EvT t σ G b) (h1 : b = true → ∀ H', Part G0 H0 G H' → Ex H H' → tu { D with nx := tz D } σ H') (h2 : b = false → ∀ H', Part G0 H0 G H' → Ex H H' → tw { D with nx := tz D } σ H') : tSeq (tIfS t tu tw) tz D σ H :=
  h H P.sub _ fun H' x => by
    cases b with
    | true => exact h1 rfl H' (P.on x) x
    | false => exact h2 rfl H' (P.on x) x
theorem d_when {b : Bool} (P : Part G0 H0 G H) (h : EvT t σ G b) (h1 : b = true → ∀ H', Part G0 H0 G H' → Ex H H' → tu { D with nx := tz D } σ H') (h2 : b = false → ∀ H', Part G0 H0 G H' → Ex H H' → tz D σ H') : tSeq (tIfS t tu tNext) tz D σ H :=
  d_if P h h1 h2
theorem d_if1 {b : Bool} (P : Part G0 H0 G H) (h : EvT t σ G b) (h1 : b = true → ∀ H', Part G0 H0 G H' → Ex H H' → tu D σ H') (h2 : b = false → ∀ H', Part G0 H0 G H' → Ex H H' → tw D σ H') : tIfS t tu tw D σ H :=
  h H P.sub _ fun H' x => by
    cases b with
    | true => exact h1 rfl H' (P.on x) x
    | false => exact h2 rfl H' (P.on x) x

/-! ### what is walked -/
def YSrc (its : List PyData) (G : Hp) : Nat → Hp → V → Hp → Prop := fun i H x H' => ∀ Gc, Ex G Gc → Ex Gc H → ∃ G' d, Part Gc H G' H' ∧ its[i]? = some d ∧ Rp G' x d
def EvI (wi : TI) (σ : L2.St) (G : Hp) (its : List PyData) : Prop := ∀ H, Ex G H → ∀ R : It → Hp → Prop, (∀ J G1 H1, Part G H G1 H1 → Walk J its.length (fun H => Ex G1 H) (YSrc its G1) → R J H1) → wi σ H R
theorem ei_list (h : EvD te σ G (.list ds)) : EvI (iList K te) σ G ds := fun H x R q => h H x _ fun v G1 H1 p r => by
  cases r with
  | @lst a xs _ e b =>
    refine ⟨a, rfl, ⟨xs, .inl (.inl (p.sub _ _ e))⟩, q _ G1 H1 p ?_⟩
    rw [← b.len]
    refine (walk_list (K := K) (a := a) (xs := xs)).mono (fun H' k => .inl (.inl (k _ _ e))) fun i H2 y H3 hi k z Gc c1 c2 => ?_
    obtain ⟨rfl, hy⟩ := z
    obtain ⟨d, e1, e2⟩ := b.at2 hy
    exact ⟨Gc, d, Part.refl c2, e1, e2.up c1⟩
theorem ei_tup (h : EvD te σ G (.tuple ds)) : EvI (iTup K te) σ G ds := fun H x R q => h H x _ fun v G1 H1 p r => by
  cases r with
  | @tup a xs _ e b =>
    refine ⟨a, rfl, ⟨xs, .inl (rd_up p.sub e)⟩, q _ G1 H1 p ?_⟩
    rw [← b.len]
    refine (walk_tup (K := K) (a := a) (xs := xs)).mono (fun H' k => .inl (rd_up k e)) fun i H2 y H3 hi k z Gc c1 c2 => ?_
    obtain ⟨rfl, hy⟩ := z
    obtain ⟨d, e1, e2⟩ := b.at2 hy
    exact ⟨Gc, d, Part.refl c2, e1, e2.up c1⟩
def rgD (lo : Int) (n : Nat) : List PyData := (List.range n).map fun k => .int (lo + (k : Nat))
theorem rgD_len {lo : Int} {n : Nat} : (rgD lo n).length = n := by
  unfold rgD
  rw [List.length_map, List.length_range]
theorem rgD_at {lo : Int} {n i : Nat} (h : i < n) : (rgD lo n)[i]? = some (.int (lo + (i : Nat))) := by
  unfold rgD
  rw [List.getElem?_map, List.getElem?_range h]
  rfl
theorem ei_rng {lo : Int} {n : Nat} {G1 : Hp} : Walk (Itr lo n) (rgD lo n).length (fun H => Ex G1 H) (YSrc (rgD lo n) G1) := by
  rw [rgD_len]
  refine walk_range.mono (fun _ _ => trivial) fun i H2 y H3 hi k z Gc c1 c2 => ?_
  obtain ⟨rfl, rfl⟩ := z
  exact ⟨Gc, _, Part.refl c2, rgD_at hi, .int _⟩
theorem ei_rng1 {j : Int} (h : EvD ta σ G (.int j)) (c : -(2 ^ 62) ≤ j ∧ j < 2 ^ 62) : EvI (iRng1 (tCons ta tNil)) σ G (rgD 0 j.toNat) := fun H x R q => h H x _ fun v G1 H1 p r => by
  cases r
  exact ⟨j, rfl, c.1, c.2, q _ G1 H1 p ei_rng⟩
theorem ei_rng2 {i j : Int} (h : EvD ta σ G (.int i)) (k : EvD tb σ G (.int j)) (c : -(2 ^ 62) ≤ i ∧ i < 2 ^ 62 ∧ -(2 ^ 62) ≤ j ∧ j < 2 ^ 62) : EvI (iRng2 (tCons ta (tCons tb tNil))) σ G (rgD i (j - i).toNat) := fun H x R q =>
  h H x _ fun v G1 H1 p r => (k.mono p.ext) H1 p.sub _ fun w G2 H2 p2 r2 => by
    cases r
    cases r2
    exact ⟨i, j, rfl, c, q _ G2 H2 (p.trans p2) ei_rng⟩
/-- a new pair at each turn -/
theorem pair_new {Gc H : Hp} {T : Addr} {x y : V} {d e : PyData} (s : Ex Gc H) (n : H T = none) (r1 : Rp Gc x d) (r2 : Rp Gc y e) : Part Gc H (upd Gc T (.tup [x, y])) (upd H T (.tup [x, y])) ∧ Rp (upd Gc T (.tup [x, y])) (.ref T) (.tuple [d, e]) := by
  have p := (Part.refl s).add (o := .tup [x, y]) n
  exact ⟨p, .tup (.inl upd_same) (.cons (r1.up p.ext) (.cons (r2.up p.ext) .nil))⟩
def enD (ds : List PyData) : List PyData := (List.range ds.length).map fun k => .tuple [.int (k : Nat), ds.getD k .none]
theorem enD_len : (enD ds).length = ds.length := by
  unfold enD
  rw [List.length_map, List.length_range]
theorem enD_at {i : Nat} (h : ds[i]? = some d) : (enD ds)[i]? = some (.tuple [.int (i : Nat), d]) := by
  unfold enD
  rw [List.getElem?_map, List.getElem?_range (List.getElem?_eq_some_iff.mp h).1]
  show some (PyData.tuple [PyData.int (i : Nat), ds.getD i PyData.none]) = _
  rw [List.getD_eq_getElem?_getD, h]
  rfl
theorem enum_walk {a : Addr} {xs : List V} {G1 : Hp} (hq : ∀ H, Ex G1 H → SqL K H a xs) (b : RpA G1 xs ds) : Walk (Ite K a) (enD ds).length (fun H => Ex G1 H) (YSrc (enD ds) G1) := by
  rw [enD_len, ← b.len]
  refine (walk_enum (K := K) (a := a) (xs := xs)).mono (fun H' k => hq H' k) fun i H2 y H3 hi k z Gc c1 c2 => ?_
  obtain ⟨T, x, y2, rfl, n, rfl, e1, e2⟩ := z
  cases e1
  obtain ⟨d, e3, r⟩ := b.at2 e2
  obtain ⟨p, r2⟩ := pair_new c2 n (Rp.int (i : Nat)) (r.up c1)
  exact ⟨_, _, p, enD_at e3, r2⟩
theorem ei_enum (h : EvD ta σ G (.list ds)) : EvI (iEnum K (tCons ta tNil)) σ G (enD ds) := fun H x R q => h H x _ fun v G1 H1 p r => by
  cases r with
  | @lst a xs _ e b => exact ⟨a, xs, rfl, .inl (.inl (p.sub _ _ e)), q _ G1 H1 p (enum_walk (fun H k => .inl (.inl (k _ _ e))) b)⟩

/-! ### comprehensions -/
def lcD (f : PyData → Bool) (F : PyData → PyData) (ds : List PyData) : List PyData := (ds.filter f).map F
theorem lcD_snoc {f : PyData → Bool} {F : PyData → PyData} {i : Nat} (h : ds[i]? = some d) : lcD f F (ds.take (i + 1)) = lcD f F (ds.take i) ++ (if f d = true then [F d] else []) := by
  unfold lcD
  rw [List.take_add_one, h, List.filter_append, List.map_append]
  cases q : f d with
  | true =>
    show _ ++ List.map F (List.filter f [d]) = _ ++ (if true = true then [F d] else [])
    rw [List.filter_cons, if_pos q, if_pos rfl]
    rfl
  | false =>
    show _ ++ List.map F (List.filter f [d]) = _ ++ (if false = true then [F d] else [])
    rw [List.filter_cons, if_neg (by rw [q]; decide), if_neg (by decide)]
    rfl
theorem lcD_len (f : PyData → Bool) (F : PyData → PyData) (ds : List PyData) : (lcD f F ds).length ≤ ds.length := by
  unfold lcD
  rw [List.length_map]
  exact List.length_filter_le f ds
theorem lcD_all (F : PyData → PyData) (ds : List PyData) : lcD (fun _ => true) F ds = ds.map F := by
  unfold lcD
  rw [List.filter_eq_self.mpr (fun _ _ => rfl)]
/-- one turn's target and what follows it -/
def Turn (g : TG) (tt : TT) (te : TE) (vs : List Nat) (f : PyData → Bool) (F : PyData → PyData) (σ : L2.St) (G : Hp) (its : List PyData) : Prop :=
  ∀ (i : Nat) (d : PyData) (x : V) (G' H' : Hp) (R : L2.St → Hp → Prop), Ex G G' → Ex G' H' → its[i]? = some d → Rp G' x d →
    (∀ σ2, wipe σ2 vs = wipe σ vs → EvT tt σ2 G' (f d) → (f d = true → EvD te σ2 G' (F d)) → R σ2 H') → g x (wipe σ vs) H' R
structure Acc (f : PyData → Bool) (F : PyData → PyData) (its : List PyData) (G H1 : Hp) (A : Addr) (i : Nat) (H' Gc : Hp) (acc : List V) : Prop where
  part : Part G H1 Gc H'
  off : Gc A = none
  there : H' A = some (.lst acc)
  rp : RpA Gc acc (lcD f F (its.take i))
theorem ed_lc {wi : TI} {g : TG} {tt : TT} {vs : List Nat} {its : List PyData} (f : PyData → Bool) (F : PyData → PyData) (h : EvI wi σ G its) (hz : its.length ≤ 100000) (ht : Turn g tt te vs f F σ G its) : EvD (tLc wi g tt te vs) σ G (.list (lcD f F its)) := fun H x Q q =>
  h H x _ fun J G1 H1 p W A hA => by
    refine lc_it W (fun i H' => ∃ Gc acc, Acc f F its G1 H1 A i H' Gc acc) ⟨G1, [], ⟨?_, ?_, upd_same, .nil⟩⟩ (fun i H' _ ⟨Gc, acc, a⟩ => a.part.ext.trans a.part.sub) ?_ ?_
    · exact (Part.refl p.sub).on (Ex.new hA)
    · exact fresh_back p.sub hA
    · intro i y H2 H3 hi ⟨Gc, acc, a⟩ hy
      obtain ⟨G2, d, p2, e1, r⟩ := hy Gc a.part.ext a.part.sub
      refine ht i d y G2 H3 _ ((p.ext.trans a.part.ext).trans p2.ext) p2.sub e1 r fun σ2 hw hT hE => ⟨hw, ?_⟩
      have pc : Part G1 H1 G2 H3 := a.part.trans p2
      have off2 : G2 A = none := by
        cases z : G2 A with
        | none => rfl
        | some o =>
          have k := p2.new A o z a.off
          rw [a.there] at k
          cases k
      refine hT H3 p2.sub _ fun H4 e4 => ?_
      have th4 : H4 A = some (.lst acc) := e4 _ _ (p2.old _ _ a.there)
      cases hf : f d with
      | true =>
        show te σ2 H4 fun y H5 => ∃ acc, H5 A = some (.lst acc) ∧ acc.length < sizeLine ∧ ∃ Gc acc2, Acc f F its G1 H1 A (i + 1) (upd H5 A (.lst (acc ++ [y]))) Gc acc2
        refine hE hf H4 (p2.sub.trans e4) _ fun y2 G5 H5 p5 r5 => ⟨acc, p5.old _ _ th4, ?_, G5, acc ++ [y2], ?_⟩
        · refine sz_lt ?_
          rw [a.rp.len]
          have l1 := lcD_len f F (its.take i)
          rw [List.length_take] at l1
          have l2 : i < its.length := hi
          omega
        · have off5 : G5 A = none := by
            cases z : G5 A with
            | none => rfl
            | some o =>
              have k := p5.new A o z off2
              rw [th4] at k
              cases k
          have pz := (pc.on e4).trans p5
          refine ⟨⟨pz.ext, fun b u k => ?_, fun b u k => ?_, pz.new⟩, off5, upd_same, ?_⟩
          · rw [upd_ne (ne_of_none k off5)]
            exact pz.sub b u k
          · rw [upd_ne (ne_of_none k hA)]
            exact pz.old b u k
          · rw [lcD_snoc e1, if_pos hf]
            exact (a.rp.up (p2.ext.trans p5.ext)).snoc (.cons r5 .nil)
      | false =>
        show ∃ Gc acc2, Acc f F its G1 H1 A (i + 1) H4 Gc acc2
        refine ⟨G2, acc, pc.on e4, off2, th4, ?_⟩
        rw [lcD_snoc e1, hf, if_neg (by decide), List.append_nil]
        exact a.rp.up p2.ext
    · intro H' ⟨Gc, acc, a⟩
      have rp := a.rp
      rw [List.take_length] at rp
      have pz := p.trans a.part
      refine q (.ref A) (upd Gc A (.lst acc)) H' ⟨pz.ext.trans (Ex.new a.off), fun b u k => ?_, pz.old, fun b u k n => ?_⟩ (.lst upd_same (rp.up (Ex.new a.off)))
      · by_cases e : b = A
        · subst e
          rw [upd_same] at k
          rw [← k]
          exact a.there
        · rw [upd_ne e] at k
          exact a.part.sub b u k
      · by_cases e : b = A
        · subst e
          exact fresh_back p.old hA
        · rw [upd_ne e] at k
          exact pz.new b u k n
/-- the target is one name -/
theorem turn_name {j : Nat} {tt : TT} {vs : List Nat} {its : List PyData} {f : PyData → Bool} {F : PyData → PyData} (hw : ∀ x, wipe ((wipe σ vs).set j (some x)) vs = wipe σ vs)
    (ht : ∀ (i : Nat) (d : PyData) (x : V) (G' : Hp), Ex G G' → its[i]? = some d → Rp G' x d → EvT tt ((wipe σ vs).set j (some x)) G' (f d)) (he : ∀ (i : Nat) (d : PyData) (x : V) (G' : Hp), Ex G G' → its[i]? = some d → Rp G' x d → f d = true → EvD te ((wipe σ vs).set j (some x)) G' (F d)) :
    Turn (gName j) tt te vs f F σ G its := fun i d x G' H' R e s hd r k => k _ (hw x) (ht i d x G' e hd r) (he i d x G' e hd r)
/-- two names, an item that is a pair -/
theorem turn_two {j l : Nat} {tt : TT} {vs : List Nat} {its : List PyData} {f : PyData → Bool} {F : PyData → PyData} (hp : ∀ d ∈ its, ∃ a b, d = .tuple [a, b]) (hw : ∀ x y, wipe (((wipe σ vs).set j (some x)).set l (some y)) vs = wipe σ vs)
    (ht : ∀ (i : Nat) (a b : PyData) (x y : V) (G' : Hp), Ex G G' → its[i]? = some (.tuple [a, b]) → Rp G' x a → Rp G' y b → EvT tt (((wipe σ vs).set j (some x)).set l (some y)) G' (f (.tuple [a, b])))
    (he : ∀ (i : Nat) (a b : PyData) (x y : V) (G' : Hp), Ex G G' → its[i]? = some (.tuple [a, b]) → Rp G' x a → Rp G' y b → f (.tuple [a, b]) = true → EvD te (((wipe σ vs).set j (some x)).set l (some y)) G' (F (.tuple [a, b]))) :
    Turn (gTup K 2 (gCons (gName j) (gCons (gName l) gNil))) tt te vs f F σ G its := fun i d x G' H' R e s hd r k => by
  obtain ⟨a, b, rfl⟩ := hp d (List.mem_of_getElem? hd)
  cases r with
  | @tup T xs _ et c =>
    cases c with
    | cons r1 c =>
      cases c with
      | cons r2 c =>
        cases c
        exact ⟨T, _, rfl, .inl (rd_up s et), rfl, _, _, rfl, _, _, rfl, rfl, k _ (hw _ _) (ht i a b _ _ G' e hd r1 r2) (he i a b _ _ G' e hd r1 r2)⟩
theorem et_yes : EvT tYes σ G true := fun H _ Q q => q H (Ex.refl H)
/-- for: a word of the turn, the slots and the heap; G1 what the source leans on -/
theorem d_for {wi : TI} {g : TG} {its : List PyData} (P : Part G0 H0 G H) (h : EvI wi σ G its) (Pv : Hp → Nat → L2.St → Hp → Prop) (h0 : ∀ G1 H1, Part G0 H0 G1 H1 → Ex G G1 → Ex H H1 → Pv G1 0 σ H1) (hG : ∀ G1 i σ' H', i ≤ its.length → Pv G1 i σ' H' → Ex G1 H')
    (hs : ∀ G1 i x σ' H1 H', i < its.length → Ex G G1 → Pv G1 i σ' H1 → YSrc its G1 i H1 x H' → g x σ' H' fun σ2 H2 => tu { D with nx := Pv G1 (i + 1), ct := Pv G1 (i + 1), bk := tz D } σ2 H2) (hd : ∀ G1 σ' H', Ex G G1 → Pv G1 its.length σ' H' → tz D σ' H') :
    tSeq (tFor wi g tu) tz D σ H := h H P.sub _ fun J G1 H1 p W =>
  for_it (D := { D with nx := tz D }) W (Pv G1) (h0 G1 H1 (P.trans p) p.ext p.old) (hG G1) (fun i x σ' Ha Hb hi q y => hs G1 i x σ' Ha Hb hi p.ext q y) (fun σ' H' q => hd G1 σ' H' p.ext q)
end
end Lm

set_option maxHeartbeats 2000000
/-! A def by its name: where it stands, how its arguments bind, what it promises; constants; some more rules. -/
namespace Lm
open PySem PySem.Spec PyProof.Rows L2 Evl

/-- the def called x keeps the promise sp, by at most k levels -/
structure Has (P : Program) (w : World) (K : PySem.W.Frag) (mg : Str → Option Value) (base : Heap) (x : Str) (ps : List Str) (k : Nat) (sp : Sp) : Prop where
  ex : ∃ f fd, mg x = some (.ref f) ∧ PySem.W.keepIn K (.ref f) = true ∧ Binds K fd ps [] ∧ FnOk P w K mg base (L2.CX P w) k f fd ps sp
/-- where a def of the text stands -/
structure At (K : PySem.W.Frag) (mg : Str → Option Value) (x : Str) (ps : List Str) (st : Stmt) (f : Addr) : Prop where
  g : mg x = some (.ref f)
  ex : ∃ fd, Fun K x x st f fd ∧ Binds K fd ps []
section
variable {P : Program} {w : World} {K : PySem.W.Frag} {mg : Str → Option Value} {base : Heap} {x : Str} {ps N : List Str} {st : Stmt} {k : Nat} {f : Addr}
theorem has_of {r : List PyData → Out → Prop} (a : At K mg x ps st f) (S : FnScope N ps (defScope st)) (hl : ∀ ds o, r ds o → ds.length = ps.length)
    (hbody : ∀ (cdv : Value) (A : Around) (outer : List Env) (s : Shared) (H : Hp) (vs : List V) (Q : VK) (E : XK), Room k (A.deeper (envOfC x (defScope st) s.heap.objs.size f cdv)) →
      (∃ t, PSs (cxOf (L2.CX P w) P w K mg base N x (defScope st) f cdv A outer s H E) (defBody st) t ∧
        ∀ G ds o, Ex G H → RpA G vs ds → r ds o → Want o G H Q E → t { nx := fun _ H' => Q .non H', rt := Q } (start N vs) H)) : Has P w K mg base x ps (k + 1) (spO r) := by
  obtain ⟨fd, F, b⟩ := a.ex
  refine ⟨f, fd, a.g, F.kp, b, F.okX S (fun vs H Q E h => ?_) (fun cdv A outer s H vs Q E hr h => ?_)⟩
  · obtain ⟨G, ds, o, _, rp, h, _⟩ := h
    rw [rp.len]
    exact hl ds o h
  · obtain ⟨t, h1, h2⟩ := hbody cdv A outer s H vs Q E hr
    obtain ⟨G, ds, o, e, rp, h, q⟩ := h
    exact ⟨t, h1, h2 G ds o e rp h q⟩
end
section
variable {X : Cx} {x : Str} {ps : List Str} {k : Nat} {sp : Sp} {E : XK} {p pos : Pos} {e : Expr} {es : List Expr} {t : TA}
theorem pe_callH (h : Has X.prog X.w X.K X.mg X.base x ps k sp) (hr : Room k X.A) (hg : Gl X x) (hx : Passes (L2.CX X.prog X.w) X E) (ha : PA X (e :: es) t) (hdb : (x == ("__debug__" : Str)) = false := by decide)
    (he : starEach (e :: es) X.env = (false, eval e X.env) :: starEach es X.env := by rfl) (hpl : (backTo pos (starEach es X.env)).any (·.1) = false := by rfl) : PE X (.Call (.Name x p) (e :: es) [] pos) (tCall sp [] E t) := by
  obtain ⟨f, fd, hm, hk, hb, F⟩ := h.ex
  exact pe_call F hr hg hm hk hb .nil hx ha hdb he hpl
theorem pe_callH0 (h : Has X.prog X.w X.K X.mg X.base x ps k sp) (hr : Room k X.A) (hg : Gl X x) (hx : Passes (L2.CX X.prog X.w) X E) (hdb : (x == ("__debug__" : Str)) = false := by decide) : PE X (.Call (.Name x p) [] [] pos) (tCall sp [] E tNil) := by
  obtain ⟨f, fd, hm, hk, hb, F⟩ := h.ex
  exact pe_call0 F hr hg hm hk hb .nil hx hdb
theorem pe_cst {n : Int} (hg : Gl X x) (h : ∃ t, X.mg x = some (.int n t)) (hd : (x == ("__debug__" : Str)) = false := by decide) : PE X (.Name x p) (tC (.int n)) := by
  obtain ⟨t, h⟩ := h
  exact pe_glob hg h ⟨_, rfl⟩ hd
theorem pe_csts {n : Str} (hg : Gl X x) (h : ∃ t, X.mg x = some (.str n t)) (hd : (x == ("__debug__" : Str)) = false := by decide) : PE X (.Name x p) (tC (.str n)) := by
  obtain ⟨t, h⟩ := h
  exact pe_glob hg h ⟨_, rfl⟩ hd
theorem pe_cls {C : Addr} (hg : Gl X x) (h : X.mg x = some (.ref C)) (hd : (x == ("__debug__" : Str)) = false := by decide) : PE X (.Name x p) (tC (.ref C)) := pe_glob hg h rfl hd
end
section
variable {K : PySem.W.Frag} {σ : L2.St} {G H : Hp} {ta tb tc : TE} {i j k : Int}
theorem ed_chain {p q : Int → Int → Bool} (h1 : EvD ta σ G (.int i)) (h2 : EvD tb σ G (.int j)) (h3 : EvD tc σ G (.int k)) :
    EvD (tChain (rI0 fun i j => .bl (p i j)) (rI0 fun i j => .bl (q i j)) ta tb tc) σ G (.bool (p i j && q j k)) := ofEv (v := .bl (p i j && q j k)) (fun H1 e1 Q c =>
  (h1.ev rfl) H1 e1 _ fun H2 e2 => (h2.ev rfl) H2 (e1.trans e2) _ fun H3 e3 => ⟨i, j, rfl, rfl, p i j, rfl, by
    cases z : p i j with
    | true =>
      show tc σ H3 _
      refine (h3.ev rfl) H3 ((e1.trans e2).trans e3) _ fun H4 e4 => ⟨j, k, rfl, rfl, ?_⟩
      have w := c H4 ((e2.trans e3).trans e4)
      rw [z] at w
      exact w
    | false =>
      show Q (.bl false) H3
      have w := c H3 (e2.trans e3)
      rw [z] at w
      exact w⟩) rfl
end
theorem one {G : Hp} {vs : List V} {d : PyData} (h : RpA G vs [d]) : ∃ v, vs = [v] ∧ Rp G v d := by
  cases h with
  | cons a b =>
    cases b
    exact ⟨_, rfl, a⟩
theorem two {G : Hp} {vs : List V} {d e : PyData} (h : RpA G vs [d, e]) : ∃ v w, vs = [v, w] ∧ Rp G v d ∧ Rp G w e := by
  cases h with
  | cons a b =>
    obtain ⟨w, rfl, r⟩ := one b
    exact ⟨_, w, rfl, a, r⟩
theorem three {G : Hp} {vs : List V} {d e f : PyData} (h : RpA G vs [d, e, f]) : ∃ v w u, vs = [v, w, u] ∧ Rp G v d ∧ Rp G w e ∧ Rp G u f := by
  cases h with
  | cons a b =>
    obtain ⟨w, u, rfl, r1, r2⟩ := two b
    exact ⟨_, w, u, rfl, a, r1, r2⟩
end Lm

set_option maxHeartbeats 2000000
/-! list(zip(t, u)) over data; piles and rows as data. -/
namespace Lm
open PySem PySem.Spec PyProof.Rows L2 Evl

def pairsD (ds es : List PyData) : List PyData := (ds.zip es).map fun p => .tuple [p.1, p.2]
section
variable {K : PySem.W.Frag} {σ : L2.St} {G G1 H H1 : Hp} {ta tb : TE} {ds es : List PyData}
theorem part_put {ts : List Addr} : ∀ {qs : List (V × V)} {G1 H1 : Hp}, Part G H G1 H1 → (∀ t ∈ ts, H1 t = none) → ts.Nodup → Part G H (LmZip.putP G1 ts qs) (LmZip.putP H1 ts qs) := by
  induction ts with
  | nil => exact fun p _ _ => p
  | cons t ts ih =>
    intro qs G1 H1 p hn hd
    cases qs with
    | nil => exact p
    | cons q qs =>
      have nd := List.nodup_cons.mp hd
      refine ih (p.add (hn t List.mem_cons_self)) (fun u hu => ?_) nd.2
      rw [upd_ne (fun z => nd.1 (by rw [← z]; exact hu))]
      exact hn u (List.mem_cons_of_mem _ hu)
theorem put_up {ts : List Addr} : ∀ {qs : List (V × V)} {G1 : Hp}, (∀ t ∈ ts, G1 t = none) → Ex G1 (LmZip.putP G1 ts qs) := fun {qs G1} hn a o e => by
  rw [LmZip.putP_off (fun z => by rw [hn a z] at e; cases e)]
  exact e
theorem put_rp : ∀ {ds es : List PyData} {ts : List Addr} {xs ys : List V} {G1 : Hp}, RpA G1 xs ds → RpA G1 ys es → ts.length = (xs.zip ys).length → ts.Nodup → (∀ t ∈ ts, G1 t = none) →
    RpA (LmZip.putP G1 ts (xs.zip ys)) (ts.map V.ref) (pairsD ds es)
  | [], es, ts, xs, ys, G1, r1, r2, hl, nd, hn => by
    cases r1
    have e : ts = [] := List.length_eq_zero_iff.mp (by rw [hl]; rfl)
    subst e
    exact .nil
  | d :: ds, [], ts, xs, ys, G1, r1, r2, hl, nd, hn => by
    cases r2
    have e : ts = [] := List.length_eq_zero_iff.mp (by rw [hl, List.zip_nil_right]; rfl)
    subst e
    exact .nil
  | d :: ds, e :: es, ts, xs, ys, G1, r1, r2, hl, nd, hn => by
    cases r1 with
    | @cons x xs _ _ a1 b1 =>
      cases r2 with
      | @cons y ys _ _ a2 b2 =>
        cases ts with
        | nil => cases hl
        | cons t ts =>
          have n2 := List.nodup_cons.mp nd
          have ht := hn t List.mem_cons_self
          have u1 : Ex G1 (upd G1 t (.tup [x, y])) := Ex.new ht
          have hn2 : ∀ u ∈ ts, (upd G1 t (.tup [x, y])) u = none := fun u hu => by
            rw [upd_ne (fun z => n2.1 (by rw [← z]; exact hu))]
            exact hn u (List.mem_cons_of_mem _ hu)
          have ih := put_rp (ds := ds) (es := es) (ts := ts) (b1.up u1) (b2.up u1) (Nat.succ.inj hl) n2.2 hn2
          have up2 : Ex (upd G1 t (.tup [x, y])) (LmZip.putP (upd G1 t (.tup [x, y])) ts (xs.zip ys)) := put_up hn2
          refine .cons (.tup (.inl (up2 _ _ upd_same)) (.cons (a1.up (u1.trans up2)) (.cons (a2.up (u1.trans up2)) .nil))) ih
theorem ed_listZip (h : EvD ta σ G (.tuple ds)) (k : EvD tb σ G (.tuple es)) : EvD (tCB (LmZip.rLz K) (tCons ta (tCons tb tNil))) σ G (.list (pairsD ds es)) := fun H x Q q =>
  h H x _ fun v G1 H1 p r => (k.mono p.ext) H1 p.sub _ fun w G2 H2 p2 r2 => by
    cases r with
    | @tup a xs _ e1 b1 =>
      cases r2 with
      | @tup b ys _ e2 b2 =>
        refine ⟨a, b, xs, ys, rfl, .inl (rd_up (p2.ext.trans p2.sub) e1), .inl (rd_up p2.sub e2), fun l ts n hn nl nd hl => ?_⟩
        have pz := (p.trans p2).add (o := .lst (ts.map V.ref)) n
        have gn : G2 l = none := fresh_back p2.sub n
        have hn1 : ∀ t ∈ ts, (upd H2 l (.lst (ts.map V.ref))) t = none := fun t ht => by
          rw [upd_ne (fun z => nl (by rw [← z]; exact ht))]
          exact hn t ht
        have gn1 : ∀ t ∈ ts, (upd G2 l (.lst (ts.map V.ref))) t = none := fun t ht => fresh_back pz.sub (hn1 t ht)
        have u1 : Ex G2 (upd G2 l (.lst (ts.map V.ref))) := Ex.new gn
        refine q (.ref l) _ _ (part_put pz hn1 nd) (.lst (put_up gn1 _ _ upd_same) (put_rp (b1.up (p2.ext.trans u1)) (b2.up u1) hl nd gn1))
end

/-! ### places, piles, rows -/
def isPlaceD : PyData → Bool
  | .int i => decide (0 ≤ i) && decide (i ≤ 99)
  | _ => false
def toI : PyData → Int
  | .int i => i
  | _ => 0
def nx (ns : List Int) : List (Int × Int) := ns.zip (ns.drop 1)
def isPileD : PyData → Bool
  | .tuple ds => decide (ds.length ≤ 240) && (ds.all isPlaceD && (nx (ds.map toI)).all fun p => decide (p.1 ≤ p.2))
  | _ => false
def looseD : PyData → Bool
  | .tuple ds => (nx (ds.map toI)).all fun p => decide (1 < p.2 - p.1)
  | _ => false
def isRowD (d : PyData) : Bool := isPileD d && looseD d
/-- its type is known, its entries' too -/
def plainD : PyData → Bool
  | .tuple ds => ds.all fun d => (tyD d).isSome
  | d => (tyD d).isSome
theorem places_ints : ∀ {ds : List PyData}, ds.all isPlaceD = true → ds = (ds.map toI).map .int
  | [], _ => rfl
  | d :: ds, h => by
    rw [List.all_cons, Bool.and_eq_true] at h
    have ih := places_ints h.2
    cases d with
    | int i =>
      show PyData.int i :: ds = PyData.int i :: (ds.map toI).map .int
      rw [← ih]
    | _ => cases h.1
def rPlace : List PyData → Out → Prop := fun ds o => ∃ d, ds = [d] ∧ (tyD d).isSome = true ∧ o = .val (.bool (isPlaceD d))
def rNext : List PyData → Out → Prop := fun ds o => ∃ l, ds = [.tuple l] ∧ o = .val (.list (pairsD l (l.drop 1)))
def rIsPile : List PyData → Out → Prop := fun ds o => ∃ d, ds = [d] ∧ plainD d = true ∧ o = .val (.bool (isPileD d))
def rIsRow : List PyData → Out → Prop := fun ds o => ∃ d, ds = [d] ∧ plainD d = true ∧ o = .val (.bool (isRowD d))
theorem tyD_known {d : PyData} {T : String} (h : tyD d = some T) : LmType.Known T := by
  unfold LmType.Known
  cases d with
  | none => cases h; simp
  | bool _ => cases h; simp
  | int _ => cases h; simp
  | str _ => cases h; simp
  | list _ => cases h; simp
  | tuple _ => cases h; simp
  | dict l =>
    cases l with
    | nil => cases h; simp
    | cons a b => cases h
theorem known_int : LmType.Known "int" := .inl rfl
theorem known_tuple : LmType.Known "tuple" := by
  unfold LmType.Known
  simp
theorem known_list : LmType.Known "list" := by
  unfold LmType.Known
  simp
theorem cut1D (ds : List PyData) : cutD ds (some 1) none = ds.drop 1 := by
  unfold cutD
  rw [show HT.sIx ds.length 0 (some 1) = min 1 ds.length from HT.sIx_nat ds.length 0 1, HT.sIx_none]
  cases ds with
  | nil => rfl
  | cons d ds =>
    rw [show min 1 (d :: ds).length = 1 by rw [List.length_cons]; omega]
    show List.take ((d :: ds).length - 1) ds = ds
    rw [List.length_cons, Nat.add_sub_cancel, List.take_length]
theorem tyD_int {d : PyData} (h : tyD d = some "int") : ∃ i, d = .int i := by
  cases d with
  | int i => exact ⟨i, rfl⟩
  | dict l => cases l <;> simp [tyD] at h
  | _ => simp [tyD] at h
theorem tyD_tuple {d : PyData} (h : tyD d = some "tuple") : ∃ l, d = .tuple l := by
  cases d with
  | tuple l => exact ⟨l, rfl⟩
  | dict l => cases l <;> simp [tyD] at h
  | _ => simp [tyD] at h
theorem tyD_list {d : PyData} (h : tyD d = some "list") : ∃ l, d = .list l := by
  cases d with
  | list l => exact ⟨l, rfl⟩
  | dict l => cases l <;> simp [tyD] at h
  | _ => simp [tyD] at h
theorem tyD_not {d : PyData} {S : String} (h : tyD d = some S) (n : S ≠ "int") : isPlaceD d = false := by
  cases d with
  | int i => exact absurd (Option.some.inj h).symm n
  | _ => rfl
theorem tyD_notT {d : PyData} {S : String} (h : tyD d = some S) (n : S ≠ "tuple") : isPileD d = false := by
  cases d with
  | tuple l => exact absurd (Option.some.inj h).symm n
  | _ => rfl
theorem plain_ty {d : PyData} (h : plainD d = true) : ∃ S, tyD d = some S := by
  cases d with
  | tuple l => exact ⟨_, rfl⟩
  | dict l => cases l with
    | nil => exact ⟨_, rfl⟩
    | cons a b => cases h
  | _ => exact ⟨_, rfl⟩
theorem pairs_ints (ns ms : List Int) : pairsD (ns.map .int) (ms.map .int) = (ns.zip ms).map fun p => .tuple [.int p.1, .int p.2] := by
  unfold pairsD
  rw [List.zip_map, List.map_map]
  rfl
theorem isPile_tuple (ds : List PyData) : isPileD (.tuple ds) = (decide (ds.length ≤ 240) && (ds.all isPlaceD && (nx (ds.map toI)).all fun p => decide (p.1 ≤ p.2))) := rfl
theorem nx_pairs (ns : List Int) : pairsD (ns.map .int) ((ns.map PyData.int).drop 1) = (nx ns).map fun p => .tuple [.int p.1, .int p.2] := by
  rw [← List.map_drop, pairs_ints]
  rfl
section
variable {K : PySem.W.Frag} {σ : L2.St} {G H : Hp} {te te2 : TE}
/-- all([f(a, b) for a, b in the pairs]) -/
theorem ed_allPairs {j l : Nat} (f : Int → Int → Bool) {qs : List (Int × Int)} (h : EvD te σ G (.list (qs.map fun p => .tuple [.int p.1, .int p.2]))) (hz : qs.length ≤ 100000)
    (hw : ∀ x y, wipe (((wipe σ [j, l]).set j (some x)).set l (some y)) [j, l] = wipe σ [j, l]) (he : ∀ (a b : Int) (G' : Hp), EvD te2 (((wipe σ [j, l]).set j (some (.int a))).set l (some (.int b))) G' (.bool (f a b))) :
    EvD (tCB (rAll K) (tCons (tLc (iList K te) (gTup K 2 (gCons (gName j) (gCons (gName l) gNil))) tYes te2 [j, l]) tNil)) σ G (.bool (qs.all fun p => f p.1 p.2)) := by
  refine (ed_all (bs := qs.map fun p => f p.1 p.2) ((ed_lc (fun _ => true) (fun d => match d with | .tuple [.int a, .int b] => .bool (f a b) | _ => .none) (ei_list h) ?_ (turn_two ?_ hw (fun _ _ _ _ _ _ _ _ _ _ => et_yes) fun i a b x y G' e' hi ra rb _ => ?_)).is ?_)).is ?_
  · rw [List.length_map]
    exact hz
  · intro d hd
    obtain ⟨z, _, e3⟩ := List.mem_map.mp hd
    exact ⟨_, _, e3.symm⟩
  · rw [List.getElem?_map] at hi
    cases hq : qs[i]? with
    | none =>
      rw [hq] at hi
      cases hi
    | some p =>
      rw [hq] at hi
      have e1 : PyData.tuple [.int p.1, .int p.2] = .tuple [a, b] := Option.some.inj hi
      cases e1
      cases ra
      cases rb
      exact he p.1 p.2 G'
  · rw [lcD_all, List.map_map, List.map_map]
    rfl
  · rw [List.all_map]
    rfl
end
/-! ### what marks are worth -/
def fw : Nat → Int
  | 0 => 1
  | 1 => 2
  | k + 2 => fw k + fw (k + 1)
def fws (n : Nat) : List Int := (List.range n).map fw
theorem fws_len (n : Nat) : (fws n).length = n := by
  unfold fws
  rw [List.length_map, List.length_range]
theorem fws_at {n k : Nat} (h : k < n) : (fws n)[k]? = some (fw k) := by
  unfold fws
  rw [List.getElem?_map, List.getElem?_range h]
  rfl
theorem fws_succ (n : Nat) : fws (n + 1) = fws n ++ [fw n] := by
  unfold fws
  rw [List.range_succ, List.map_append]
  rfl
theorem atI_neg {α : Type} {xs : List α} {i : Int} {j : Nat} (h0 : i < 0) (h : i + xs.length = (j : Int)) : atI xs i = xs[j]? := by
  unfold atI ixN
  rw [if_neg (by omega), if_pos (by omega), h]
  rfl
theorem atI_pos {α : Type} {xs : List α} {i : Int} (h0 : 0 ≤ i) : atI xs i = xs[i.toNat]? := by
  unfold atI ixN
  rw [if_pos h0]
  by_cases h : i < xs.length
  · rw [if_pos h]
    rfl
  · rw [if_neg h, List.getElem?_eq_none (by omega)]
    rfl
section
variable {K : PySem.W.Frag} {σ : L2.St} {G H H' : Hp} {p : Addr} {xs : List V} {ds : List PyData}
theorem part_new {o : HO} (e : Ex G H) (n : H p = none) (x : Ex H H') (h : H' p = some o) : Part G H (upd G p o) H' where
  ext := Ex.new (fresh_back e n)
  sub := fun a u k => by
    by_cases z : a = p
    · subst z
      rw [upd_same] at k
      rw [← k]
      exact h
    · rw [upd_ne z] at k
      exact x _ _ (e _ _ k)
  old := x
  new := fun a u k m => by
    by_cases z : a = p
    · subst z
      exact n
    · rw [upd_ne z, m] at k
      cases k
/-- return of a list that was made here and has grown -/
theorem d_retNew {i : Nat} {D : Ends} {E : XK} (e : Ex G H) (n : H p = none) (x : Ex H H') (h : H' p = some (.lst xs)) (r : RpA G xs ds) (s : σ[i]? = some (some (.ref p))) (q : Want (.val (.list ds)) G H D.rt E) : tRet (tVar i) D σ H' :=
  ⟨.ref p, s, q (.ref p) _ H' (part_new e n x h) (.lst upd_same (r.up (Ex.new (fresh_back e n))))⟩
end
def rWorths (n : Nat) : List PyData → Out → Prop := fun ds o => ds = [] ∧ o = .val (.list ((fws n).map .int))
def rNeedP (C : Addr) : List PyData → Out → Prop := fun ds o => ∃ d, ds = [d] ∧ plainD d = true ∧ o = if isPileD d = true then .val .none else .err C
def rNeedR (C : Addr) : List PyData → Out → Prop := fun ds o => ∃ d, ds = [d] ∧ plainD d = true ∧ o = if isRowD d = true then .val .none else .err C
/-! ### sorting -/
def insI (n : Int) : List Int → List Int
  | [] => [n]
  | m :: ms => if n ≤ m then n :: m :: ms else m :: insI n ms
def srt : List Int → List Int
  | [] => []
  | n :: ns => insI n (srt ns)
theorem insI_perm (n : Int) : ∀ ms : List Int, (insI n ms).Perm (n :: ms)
  | [] => .refl _
  | m :: ms => by
    unfold insI
    by_cases h : n ≤ m
    · rw [if_pos h]
    · rw [if_neg h]
      exact ((insI_perm n ms).cons m).trans (.swap n m ms)
theorem insI_rise (n : Int) : ∀ {ms : List Int}, ms.Pairwise (· ≤ ·) → (insI n ms).Pairwise (· ≤ ·)
  | [], _ => List.pairwise_singleton _ _
  | m :: ms, h => by
    have h2 := List.pairwise_cons.mp h
    unfold insI
    by_cases c : n ≤ m
    · rw [if_pos c]
      refine List.pairwise_cons.mpr ⟨fun a ha => ?_, h⟩
      rcases List.mem_cons.mp ha with e | ha
      · rw [e]
        exact c
      · exact Int.le_trans c (h2.1 a ha)
    · rw [if_neg c]
      refine List.pairwise_cons.mpr ⟨fun a ha => ?_, insI_rise n h2.2⟩
      rcases List.mem_cons.mp ((insI_perm n ms).mem_iff.mp ha) with e | ha
      · rw [e]
        omega
      · exact h2.1 a ha
theorem srt_perm : ∀ ns : List Int, (srt ns).Perm ns
  | [] => .refl _
  | n :: ns => (insI_perm n (srt ns)).trans ((srt_perm ns).cons n)
theorem srt_rise : ∀ ns : List Int, (srt ns).Pairwise (· ≤ ·)
  | [] => .nil
  | n :: ns => insI_rise n (srt_rise ns)
theorem rise_one : ∀ {ks ms : List Int}, ks.Perm ms → ks.Pairwise (· ≤ ·) → ms.Pairwise (· ≤ ·) → ks = ms
  | [], ms, p, _, _ => (List.Perm.eq_nil p.symm).symm
  | k :: ks, [], p, _, _ => absurd p.eq_nil (List.cons_ne_nil _ _)
  | k :: ks, m :: ms, p, h1, h2 => by
    have a1 := List.pairwise_cons.mp h1
    have a2 := List.pairwise_cons.mp h2
    have e : k = m := by
      have i1 : k ∈ m :: ms := p.mem_iff.mp List.mem_cons_self
      have i2 : m ∈ k :: ks := p.mem_iff.mpr List.mem_cons_self
      rcases List.mem_cons.mp i1 with e | i1
      · exact e
      · rcases List.mem_cons.mp i2 with e | i2
        · exact e.symm
        · have := a1.1 m i2
          have := a2.1 k i1
          omega
    subst e
    rw [rise_one p.cons_inv a1.2 a2.2]
theorem srt_one {ks ns : List Int} (p : ks.Perm ns) (h : ks.Pairwise (· ≤ ·)) : ks = srt ns := rise_one (p.trans (srt_perm ns).symm) h (srt_rise ns)
theorem srt_len (ns : List Int) : (srt ns).length = ns.length := (srt_perm ns).length_eq
theorem rise_nx : ∀ {ns : List Int}, ns.Pairwise (· ≤ ·) → ((nx ns).all fun p => decide (p.1 ≤ p.2)) = true
  | [], _ => rfl
  | [_], _ => rfl
  | a :: b :: r, h => by
    have h2 := List.pairwise_cons.mp h
    show (decide (a ≤ b) && (nx (b :: r)).all fun p => decide (p.1 ≤ p.2)) = true
    rw [rise_nx h2.2, decide_eq_true (h2.1 b List.mem_cons_self)]
    rfl
theorem nx_rise : ∀ {ns : List Int}, ((nx ns).all fun p => decide (p.1 ≤ p.2)) = true → ns.Pairwise (· ≤ ·)
  | [], _ => .nil
  | [_], _ => List.pairwise_singleton _ _
  | a :: b :: r, h => by
    have h1 : (decide (a ≤ b) && (nx (b :: r)).all fun p => decide (p.1 ≤ p.2)) = true := h
    rw [Bool.and_eq_true] at h1
    have ih := nx_rise h1.2
    have h0 := of_decide_eq_true h1.1
    refine List.pairwise_cons.mpr ⟨fun c hc => ?_, ih⟩
    rcases List.mem_cons.mp hc with e | hc
    · rw [e]
      exact h0
    · exact Int.le_trans h0 ((List.pairwise_cons.mp ih).1 c hc)
/-! ### piles of ints -/
def inI (n : Int) : Bool := decide (0 ≤ n) && decide (n ≤ 99)
def pileI (ns : List Int) : Bool := decide (ns.length ≤ 240) && (ns.all inI && (nx ns).all fun p => decide (p.1 ≤ p.2))
theorem toI_map (ns : List Int) : (ns.map PyData.int).map toI = ns := by
  rw [List.map_map]
  show ns.map (fun n => n) = ns
  rw [List.map_id']
theorem places_map (ns : List Int) : (ns.map PyData.int).all isPlaceD = ns.all inI := by
  rw [List.all_map]
  rfl
theorem isPile_ints (ns : List Int) : isPileD (.tuple (ns.map .int)) = pileI ns := by
  rw [isPile_tuple, toI_map, places_map, List.length_map]
  rfl
theorem plain_ints (ns : List Int) : plainD (.tuple (ns.map .int)) = true := by
  show ((ns.map PyData.int).all fun d => (tyD d).isSome) = true
  rw [List.all_map]
  exact List.all_eq_true.mpr fun _ _ => rfl
theorem all_perm {ks ns : List Int} (p : ks.Perm ns) (f : Int → Bool) : ks.all f = ns.all f := by
  rw [Bool.eq_iff_iff, List.all_eq_true, List.all_eq_true]
  exact ⟨fun h x hx => h x (p.mem_iff.mpr hx), fun h x hx => h x (p.mem_iff.mp hx)⟩
theorem pile_srt (ns : List Int) : pileI (srt ns) = (decide (ns.length ≤ 240) && ns.all inI) := by
  unfold pileI
  rw [srt_len, all_perm (srt_perm ns), rise_nx (srt_rise ns), Bool.and_true]
def rPileOf (C : Addr) : List PyData → Out → Prop := fun ds o => ∃ l, ds = [.list l] ∧ (l.all fun d => (tyD d).isSome) = true ∧ l.length ≤ 100000 ∧
  o = if (decide (l.length ≤ 240) && l.all isPlaceD) = true then .val (.tuple ((srt (l.map toI)).map .int)) else .err C
def worthI (ns : List Int) : Int := (ns.map fun i => fw i.toNat).sum
def worthD : PyData → Int
  | .tuple ds => worthI (ds.map toI)
  | _ => 0
def rWorth (C : Addr) : List PyData → Out → Prop := fun ds o => ∃ d, ds = [d] ∧ plainD d = true ∧ o = if isPileD d = true then .val (.int (worthD d)) else .err C
end Lm

set_option maxHeartbeats 2000000
/-! {e for .. in ..} of numbers: a set that one walk fills. -/
namespace LmSet
open PySem PySem.Spec PyProof.Rows L2 PpSet

/-- the empty set, as it is laid -/
abbrev emptyO (w : World) : Obj := { cls := .type "set", dict := none, data := .set #[] 0 (.fresh 0 0 (!w.params.followText "set-order")) }
/-- one more number -/
abbrev moreO (w : World) (D : Addr) (S : Int → Bool) (m : Nat) (k : Int) : HO := SetO w D (fun j => S j || decide (j = k)) (if S k = true then m else m + 1)
/-- the reading: at most n turns; Pv i: ahead of turn i -/
def tSi (w : World) (wi : TI) (g : TG) (tt : TT) (te : TE) (vs : List Nat) : TE := fun σ H Q => wi σ H fun J H1 => ∀ D, H1 D = none → ∃ (Pv : Nat → Hp → Prop) (n : Nat), Pv 0 (upd H1 D (SetO w D (fun _ => false) 0)) ∧
  ∀ i Hi, i ≤ n → Pv i Hi → (J.stop i Hi ∧ Q (.ref D) Hi) ∨ (J.go i Hi ∧ i < n ∧ ∀ x Hx, J.yld i Hi x Hx → g x (wipe σ vs) Hx fun σg Hg => wipe σg vs = wipe σ vs ∧ tt σg Hg fun b Ht =>
    if b = true then te σg Ht fun y He => ∃ (k : Int) (S : Int → Bool) (m : Nat), y = .int k ∧ He D = some (SetO w D S m) ∧ m + 1 < scanBound ∧ Pv (i + 1) (upd He D (moreO w D S m k)) else Pv (i + 1) Ht)
section
variable {X : Cx}
/-- what stands before a block still stands within it -/
theorem held {s0 : Shared} {H0 : Hp} {scope : Scope} {ce : Env} {fp : List Addr} {τ : L2.St} {Hn : Hp} {sn : Shared} (J : Inv (X.blk s0 H0 scope ce fp) [] τ Hn sn) (z : ∀ b ∈ fp, Hn b = none) : ∀ b ∈ fp, FpOk (X.blk s0 H0 scope ce fp) [] Hn b :=
  fun b hb => And.intro (z b hb) ⟨(J.ok.exf b hb).1, J.ok.exfs b hb, .inl hb, fun x c q => (J.ok.exf b hb).2 x c q, fun p hp => by cases (show p ∈ ([] : List (Addr × Obj)) from hp)⟩
theorem pe_setI {elt tg iter : Expr} {ifs : List Expr} {scope : Scope} {own : List (PySem.Str × Nat)} {pos : Pos} {wi : TI} {g : TG} {tt : TT} {te : TE} (hc : X.calm = true) (hN : X.N.Nodup) (hi : PI X tg iter wi) (bo : BlkOk X.N X.env.scope scope own)
    (hg : ∀ s H C cl fp, PG (X.blk s H scope (compEnvC scope cl C X.env) fp) tg g) (ht : ∀ s H C cl fp, PTs (X.blk s H scope (compEnvC scope cl C X.env) fp) ifs tt) (he : ∀ s H C cl fp, PE (X.blk s H scope (compEnvC scope cl C X.env) fp) elt te)
    (hs : ∀ x, foldedSetIterable iter X.env x = pure x := by intro _; rfl) : PE X (.SetComp elt [⟨tg, iter, ifs, 0⟩] scope pos) (tSi X.w wi g tt te (own.map (·.2))) := by
  constructor
  intro pins s σ H Q I h
  have cl : ∀ y ∈ scope.names, y.2 = .free → ∃ c, X.env.cells.lookup y.1 = some c := by
    intro y hy e
    cases bo.free y hy e with
    | inl k => exact I.ok.has _ (.inl k)
    | inr k => exact I.ok.has _ (.inr k)
  rw [eval_SetComp]
  refine wpAny_comprehension_free (use := none) rfl hs (closure_ok cl) bo.kind (fun y hy e => (bo.uniq y hy).trans (by rw [e])) (thn (hi.run pins s σ H _ I h) ?_)
  intro xv s1 hx
  refine thn hx ?_
  rintro itv s2 ⟨it, fp, tn, J, H2, rfl, I2, T, st2, f2, q⟩
  -- the new set's place, then the block's own frame
  obtain ⟨D, eD⟩ : ∃ D, D = s2.heap.objs.size := ⟨_, rfl⟩
  refine newSet_ok (newEnv_comp ?_)
  rw [← eD]
  obtain ⟨Pv, n, p0, turn⟩ := q D (I2.hok.fresh (Nat.le_of_eq eD.symm))
  obtain ⟨s3, e3⟩ : ∃ s3 : Shared, s3 = { s2 with heap := s2.heap.push (emptyO X.w) } := ⟨_, rfl⟩
  have old3 : ∀ b o, s2.heap.get? b = some o → s3.heap.get? b = some o := fun b o z => by rw [e3]; exact Heap.get?_push_of_some _ z
  have I3 : Inv X pins σ (upd H2 D (SetO X.w D (fun _ => false) 0)) s3 := by
    subst e3
    exact I2.laid (t' := s2.toks) (fun b o z => Heap.get?_push_of_some _ z) (Nat.le_of_eq eD.symm) (by rw [eD]; exact setO_new (setR_fresh X.w))
  have below : ∀ b ∈ fp, b < D := fun b hb => by
    obtain ⟨o, z, _⟩ := T.obj _ _ st2 b hb
    rw [eD]
    exact Heap.lt_size z
  have f3 : ∀ b ∈ fp, FpOk X pins (upd H2 D (SetO X.w D (fun _ => false) 0)) b ∧ b < s3.heap.objs.size := fun b hb => by
    refine ⟨⟨?_, (f2 b hb).2⟩, ?_⟩
    · rw [upd_ne (Nat.ne_of_lt (below b hb))]
      exact (f2 b hb).1
    · rw [e3, Heap.size_push, ← eD]
      exact Nat.lt_succ_of_lt (below b hb)
  have st3 : tn 0 s3.heap := T.keep _ _ _ st2 fun b _ o z => old3 b o z
  rw [← e3]
  have I4 := block_start I3 bo hN f3
  have pg := hg s3 (upd H2 D (SetO X.w D (fun _ => false) 0)) s3.heap.objs.size (cellsFrom (s3.heap.objs.size + 1) scope.names (cloFrom X.env.cells scope.names [])) fp
  have pt := ht s3 (upd H2 D (SetO X.w D (fun _ => false) 0)) s3.heap.objs.size (cellsFrom (s3.heap.objs.size + 1) scope.names (cloFrom X.env.cells scope.names [])) fp
  have pe := he s3 (upd H2 D (SetO X.w D (fun _ => false) 0)) s3.heap.objs.size (cellsFrom (s3.heap.objs.size + 1) scope.names (cloFrom X.env.cells scope.names [])) fp
  show codeAny _ _ (.compStart _ 0 (.ref it) (.ref D) (compEnvC scope (cellsFrom (s3.heap.objs.size + 1) scope.names (cloFrom X.env.cells scope.names [])) s3.heap.objs.size X.env)) _ _
  obtain ⟨ce, ece⟩ : ∃ ce, ce = compEnvC scope (cellsFrom (s3.heap.objs.size + 1) scope.names (cloFrom X.env.cells scope.names [])) s3.heap.objs.size X.env := ⟨_, rfl⟩
  have loc : ce.locals = s3.heap.objs.size := by rw [ece]; rfl
  rw [← ece] at I4 pg pt pe ⊢
  clear ece
  generalize upd H2 D (SetO X.w D (fun _ => false) 0) = H3 at *
  obtain ⟨s4, e4⟩ : ∃ s4 : Shared, s4 = { s3 with heap := pushCells (s3.heap.push { cls := .type "dict", data := .dict #[] }) scope.names } := ⟨_, rfl⟩
  rw [← e4] at I4
  have st4 : tn 0 s4.heap := T.keep _ _ _ st3 fun b _ o z => by
    rw [e4]
    exact pushCells_keeps _ _ _ _ (Heap.get?_push_of_some _ z)
  rw [← e4]
  suffices loop : codeAny (model X.prog X.w) X.A (.compLoop (.SetComp elt [⟨tg, iter, ifs, 0⟩] scope pos) 0 (.ref it) (.ref D) ce) (compPost (model X.prog X.w) X.A X.xe none (EP X pins σ Q) (.ref D) s3.heap.objs.size) s4 from
    codeAny_compStart_set loop (T.self X.A 0 _ _ _ st4 loop)
  refine compLoopS_any (fun m u => ∃ i Hi, i + m = n ∧ Inv (X.blk s3 H3 scope ce fp) [] (wipe σ (own.map (·.2))) Hi u ∧ tn i u.heap ∧ (∀ b ∈ fp, Hi b = none) ∧ Pv i Hi) ?_ n ⟨0, H3, Nat.zero_add n, I4, st4, fun b hb => (f3 b hb).1.1, p0⟩
  · intro m u ⟨i, Hi, hm, Iu, su, nu, pu⟩
    cases turn i Hi (by omega) pu with
    | inl z =>
      -- the walk is at its end
      refine thnF (T.done (X.blk s3 H3 scope ce fp) rfl rfl rfl hc i [] u _ Hi (fun _ _ => False) Iu (held Iu nu) su z.1) fun r v hr => ?_
      obtain ⟨rfl, Iv⟩ := hr
      have Io : Inv X pins σ Hi v := I3.call' (ch := fp) Iv.os Iv.base Iv.hok Iv.bare fun b hb => by
        obtain ⟨_, a1, a2, a3, a4, a5⟩ := (f3 b hb).1
        exact ⟨a3, a1, a4, a5⟩
      have free : Hi s3.heap.objs.size = none := loc ▸ (show Hi ce.locals = none from Iv.free)
      obtain ⟨mm, hn, _⟩ := Iv.loc
      have hn2 : v.heap.Ns s3.heap.objs.size mm := loc ▸ (show v.heap.Ns ce.locals mm from hn)
      obtain ⟨c0, c1, c2, c3, c4, c5⟩ := I3.fpOk (Nat.le_refl _) free
      exact ⟨mm, hn2, fun h2 sb => ⟨.ref D, Hi, Io.turned (t' := v.toks) (fun b o hb z => (sb.2 b hb).trans z) c0 c1 c3 c4 c5, rfl, z.2⟩⟩
    | inr z =>
      obtain ⟨go, lt, step⟩ := z
      refine thnF (T.item (X.blk s3 H3 scope ce fp) rfl rfl rfl hc i [] u _ Hi (fun _ _ => False) Iu (held Iu nu) su go) fun r v ⟨c, hr, hv⟩ => ?_
      subst hr
      refine thnF hv fun _ v1 ⟨x, H7, I7, r7, y7, st7, n7⟩ => ?_
      have P7 := I7.pinned (held I7 n7) (T.obj _ _ st7)
      refine thnF (pg.run _ v1 _ H7 x c _ P7 r7 (step x H7 y7)) fun _ v2 ⟨σ8, H8, I8, w8, q8⟩ => thnF (pt.run _ v2 σ8 H8 _ I8 q8) fun b v3 ⟨H9, I9, q9⟩ => ?_
      have next : ∀ (v' : Shared) (H' : Hp), Inv (X.blk s3 H3 scope ce fp) ([] ++ pinsAt fp v1.heap) σ8 H' v' → Pv (i + 1) H' →
          ∃ m', m' < m ∧ ∃ i Hi, i + m' = n ∧ Inv (X.blk s3 H3 scope ce fp) [] (wipe σ (own.map (·.2))) Hi v' ∧ tn i v'.heap ∧ (∀ b ∈ fp, Hi b = none) ∧ Pv i Hi := by
        intro v' H' I' p'
        have still : ∀ b ∈ fp, ∀ o, v1.heap.get? b = some o → v'.heap.get? b = some o ∧ H' b = none := by
          intro b hb o z
          have y := I'.pin (b, o) (List.mem_append_right _ (List.mem_append_right _ (mem_pinsAt hb z)))
          exact ⟨y.1, y.2.1⟩
        have len : (wipe σ (own.map (·.2))).length = σ8.length := by rw [← w8, wipe_length]
        refine ⟨m - 1, by omega, i + 1, H', by omega, (I'.unpinned (pins := [])).weak len fun j y z => ?_, T.keep _ _ _ st7 fun b hb o z => (still b hb o z).1, fun b hb => ?_, p'⟩
        · rw [← w8] at z
          exact (wipe_some z).1
        · obtain ⟨o, z, _⟩ := T.obj _ _ st7 b hb
          exact (still b hb o z).2
      cases b with
      | false => exact next _ _ I9 q9
      | true =>
        refine thnF (pe.run _ v3 σ8 H9 _ I9 q9) fun a v4 ⟨y, H10, I10, r10, k, S, c2, ey, hD, room, p10⟩ => ?_
        subst ey
        refine thnF (mt_sadd (X := X.blk s3 H3 scope ce fp) _ v4 σ8 H10 (.ref D) [.int k] (.ref D) [a] (fun y H => y = .non ∧ Pv (i + 1) H) I10 rfl (Paired.cons r10 .nil) ⟨D, k, S, c2, rfl, rfl, hD, room, rfl, p10⟩) ?_
        rintro _ v5 ⟨y5, H5, I5, _, _, p5⟩
        exact next _ _ I5 p5
end
end LmSet

set_option maxHeartbeats 2000000
/-! sorted({..}) of numbers, as plain data -/
namespace Lm
open PySem PySem.Spec PyProof.Rows L2 Evl LmSet
/-- the numbers that a walk keeps -/
def Kept (f : PyData → Bool) (F : PyData → Int) (ds : List PyData) (k : Int) : Prop := ∃ d, d ∈ ds ∧ f d = true ∧ F d = k
theorem kept_snoc {f : PyData → Bool} {F : PyData → Int} {ds : List PyData} {d : PyData} {i : Nat} {k : Int} (h : ds[i]? = some d) : Kept f F (ds.take (i + 1)) k ↔ Kept f F (ds.take i) k ∨ (f d = true ∧ F d = k) := by
  unfold Kept
  rw [List.take_add_one, h]
  constructor
  · rintro ⟨x, hx, r⟩
    rcases List.mem_append.mp hx with hx | hx
    · exact .inl ⟨x, hx, r⟩
    · have e : x = d := by simpa using hx
      exact .inr (e ▸ r)
  · rintro (⟨x, hx, r⟩ | r)
    · exact ⟨x, List.mem_append_left _ hx, r⟩
    · exact ⟨d, List.mem_append_right _ (by simp), r⟩
theorem strict_one {ks ms : List Int} (h1 : ks.Pairwise (· < ·)) (h2 : ms.Pairwise (· < ·)) (h : ∀ k, k ∈ ks ↔ k ∈ ms) : ks = ms := by
  have n1 : ks.Nodup := h1.imp fun h => Int.ne_of_lt h
  have n2 : ms.Nodup := h2.imp fun h => Int.ne_of_lt h
  exact rise_one ((List.perm_ext_iff_of_nodup n1 n2).mpr fun k => h k) (h1.imp fun h => Int.le_of_lt h) (h2.imp fun h => Int.le_of_lt h)
theorem filter_more {S : Int → Bool} {k : Int} : ∀ {ms : List Int}, ms.Nodup → k ∈ ms → S k = false → (ms.filter fun j => S j || decide (j = k)).length = (ms.filter S).length + 1
  | m :: ms, hn, hk, hS => by
    have h2 := List.nodup_cons.mp hn
    by_cases z : m = k
    · subst z
      have e : (ms.filter fun j => S j || decide (j = m)) = ms.filter S := List.filter_congr fun j hj => by
        have : j ≠ m := fun e => h2.1 (e ▸ hj)
        rw [decide_eq_false this, Bool.or_false]
      rw [List.filter_cons, List.filter_cons, if_pos (by simp), hS, if_neg (by decide), e, List.length_cons]
    · have ih := filter_more (ms := ms) h2.2 (by
        rcases List.mem_cons.mp hk with e | e
        · exact absurd e.symm z
        · exact e) hS
      rw [List.filter_cons, List.filter_cons, decide_eq_false z, Bool.or_false]
      cases S m with
      | true =>
        rw [if_pos rfl, if_pos rfl, List.length_cons, List.length_cons, ih]
      | false =>
        rw [if_neg (by decide), if_neg (by decide), ih]
section
variable {w : World} {K : PySem.W.Frag} {σ : L2.St} {G : Hp} {te : TE}
theorem ed_sortSet {wi : TI} {g : TG} {tt : TT} {vs : List Nat} {its : List PyData} (f : PyData → Bool) (F : PyData → Int) (ms : List Int) (h : EvI wi σ G its) (hz : its.length ≤ 4000) (hms : ms.length ≤ 63) (ht : Turn g tt te vs f (fun d => .int (F d)) σ G its)
    (hp : ms.Pairwise (· < ·)) (hm : ∀ k, k ∈ ms ↔ Kept f F its k) : EvD (tCB (rSortedSet w) (tCons (tSi w wi g tt te vs) tNil)) σ G (.list (ms.map .int)) := fun H x Q q =>
  h H x _ fun J G1 H1 p W A hA => by
    refine ⟨fun i Hi => ∃ Gc S m, Part G1 H1 Gc Hi ∧ Gc A = none ∧ Hi A = some (SetO w A S m) ∧ m ≤ (ms.filter S).length ∧ ∀ k, S k = true ↔ Kept f F (its.take i) k, its.length, ⟨G1, _, 0, (Part.refl p.sub).on (Ex.new hA), fresh_back p.sub hA, upd_same, Nat.zero_le _, fun k => ?_⟩, ?_⟩
    · constructor
      · intro z
        cases z
      · rintro ⟨d, hd, _⟩
        rw [List.take_zero] at hd
        cases hd
    · rintro i Hi hi ⟨Gc, S, m, P, off, there, hmi, mem⟩
      by_cases lt : i < its.length
      · refine .inr ⟨W.goes i Hi lt (P.ext.trans P.sub), lt, fun y Hy hy => ?_⟩
        obtain ⟨G2, d, p2, e1, r⟩ := W.yields i Hi y Hy lt (P.ext.trans P.sub) hy Gc P.ext P.sub
        refine ht i d y G2 Hy _ ((p.ext.trans P.ext).trans p2.ext) p2.sub e1 r fun σ2 hw hT hE => ⟨hw, ?_⟩
        have off2 : G2 A = none := by
          cases z : G2 A with
          | none => rfl
          | some o =>
            have k := p2.new A o z off
            rw [there] at k
            cases k
        refine hT Hy p2.sub _ fun H4 e4 => ?_
        have th4 : H4 A = some (SetO w A S m) := e4 _ _ (p2.old _ _ there)
        cases hf : f d with
        | false =>
          refine ⟨G2, S, m, (P.trans p2).on e4, off2, th4, hmi, fun k => ?_⟩
          rw [mem, kept_snoc e1, hf]
          simp
        | true =>
          refine hE hf H4 (p2.sub.trans e4) _ fun y2 G5 H5 p5 r5 => ?_
          cases r5
          have off5 : G5 A = none := by
            cases z : G5 A with
            | none => rfl
            | some o =>
              have k := p5.new A o z off2
              rw [th4] at k
              cases k
          have pz := ((P.trans p2).on e4).trans p5
          refine ⟨F d, S, m, rfl, p5.old _ _ th4, by
            show m + 1 < 4096
            have := List.length_filter_le S ms
            omega, G5, _, _, ⟨pz.ext, fun b u k => ?_, fun b u k => ?_, pz.new⟩, off5, upd_same, ?_, fun k => ?_⟩
          · rw [upd_ne (ne_of_none k off5)]
            exact pz.sub b u k
          · rw [upd_ne (ne_of_none k hA)]
            exact pz.old b u k
          · have kin : F d ∈ ms := (hm _).mpr ⟨d, List.mem_of_getElem? e1, hf, rfl⟩
            have nd : ms.Nodup := hp.imp fun h => Int.ne_of_lt h
            cases hS : S (F d) with
            | true =>
              rw [if_pos rfl]
              refine Nat.le_trans hmi (Nat.le_of_eq ?_)
              congr 1
              refine List.filter_congr fun j _ => ?_
              by_cases z : j = F d
              · rw [z, hS]
                rfl
              · rw [decide_eq_false z, Bool.or_false]
            | false =>
              rw [if_neg (by decide), filter_more nd kin hS]
              omega
          · rw [kept_snoc e1, hf, Bool.or_eq_true, decide_eq_true_eq, mem]
            exact or_congr_right ⟨fun z => ⟨rfl, z.symm⟩, fun z => z.2.symm⟩
      · have e : i = its.length := by omega
        subst e
        refine .inl ⟨W.stops Hi (P.ext.trans P.sub), A, S, m, rfl, there, by have := List.length_filter_le S ms; omega, fun ns l h1 h2 _ hl => ?_⟩
        have en : ns = ms := strict_one h1 hp fun k => by rw [h2, mem, List.take_length, hm]
        subst en
        exact q _ _ _ ((p.trans P).add hl) (.lst upd_same (RpA.ofInts ns))
end
end Lm

set_option maxHeartbeats 2000000
/-! t.count(k), t a tuple of numbers -/
namespace LmCnt
open PySem PySem.Spec PyProof.Rows L2 PySem.W
def rCntT (K : PySem.W.Frag) : V → List V → Hp → VK → Prop := fun x xs H Q => ∃ (p : Addr) (ns : List Int) (k : Int), x = .ref p ∧ xs = [.int k] ∧ SqT K H p (ns.map V.int) ∧ Q (.int (ns.count k : Nat)) H
section
variable {X : Cx}
theorem mt_tcount : MtR X "tuple.count" (rCntT X.K) := by
  rintro pins s σ H _ _ v us Q I rx rxs ⟨p, ns, k, rfl, rfl, hp, q⟩
  cases rx
  obtain ⟨u, rfl, tk, rfl⟩ := rxs.one
  obtain ⟨its, rv, ⟨⟨c, dd, data, sl⟩, ho, hc, n, hd⟩, _⟩ := I.tuple hp
  cases (show c = _ from hc)
  cases (show data = _ from hd)
  have are := ints_of_vals rv
  have cnt : its.toArray.toList.countP (eqk k) = ns.count k := eqk_count are
  refine call_meets PySem.F.slot_tuple_count ⟨_, ho, rfl⟩ PySem.F.entry_tuple_count (PySem.F.args_tuple_count_2 _ _) (SeqAt.tuple_countAt p its.toArray n dd sl (.int k tk) (eqk k)) ⟨ho, fun y hy => ?_, ?_⟩
  · exact (eqk_gives are y (by simpa using hy)).at _ _
  · rw [cnt]
    exact ⟨.int (ns.count k : Nat), H, I.tok _, ⟨s.toks, rfl⟩, q⟩
theorem readsAll_ints {h : Heap} : ∀ {ns : List Int} {us : List Value}, Vals (ns.map V.int) us → ReadsAll h us (ns.map Datum.toD) []
  | [], _, .nil => .nil
  | n :: ns, _, .cons a b => by
    obtain ⟨t, rfl⟩ := a
    exact .cons (as := []) (.int n t) (readsAll_ints b)
theorem maxOf_two (ns : List Int) : ∀ n : Int, maxOf n ns ∈ n :: ns ∧ ∀ y ∈ n :: ns, y ≤ maxOf n ns := by
  unfold maxOf
  induction ns with
  | nil => intro n; exact ⟨List.mem_cons_self, fun y hy => by simp at hy; rw [hy]; exact Int.le_refl _⟩
  | cons m r ih =>
    intro n
    rw [List.foldl_cons]
    have lt : DatumOrd.lt n m = decide (n < m) := rfl
    rw [lt]
    by_cases z : n < m
    · rw [if_pos (decide_eq_true z)]
      obtain ⟨h1, h2⟩ := ih m
      refine ⟨List.mem_cons_of_mem _ h1, fun y hy => ?_⟩
      rcases List.mem_cons.mp hy with rfl | hy
      · exact Int.le_trans (Int.le_of_lt z) (h2 m List.mem_cons_self)
      · exact h2 y hy
    · rw [if_neg (by simpa using z)]
      obtain ⟨h1, h2⟩ := ih n
      refine ⟨?_, fun y hy => ?_⟩
      · rcases List.mem_cons.mp h1 with k | k
        · rw [k]
          exact List.mem_cons_self
        · exact List.mem_cons_of_mem _ (List.mem_cons_of_mem _ k)
      · rcases List.mem_cons.mp hy with rfl | hy
        · exact h2 y List.mem_cons_self
        · rcases List.mem_cons.mp hy with rfl | hy
          · exact Int.le_trans (by omega) (h2 n List.mem_cons_self)
          · exact h2 y (List.mem_cons_of_mem _ hy)
/-- max of a tuple of numbers -/
def rMaxT (K : PySem.W.Frag) : List V → Hp → VK → Prop := fun vs H Q => ∃ (a : Addr) (ns : List Int), vs = [V.ref a] ∧ SqT K H a (ns.map V.int) ∧ 0 < ns.length ∧ ∀ m, m ∈ ns → (∀ y, y ∈ ns → y ≤ m) → Q (.int m) H
theorem cr_maxT (hc : X.calm = true) (hu : X.A.units + 65 < cLine) : CallR X (.builtin "max") (rMaxT X.K) := by
  rintro pins s σ H _ us Q I r ⟨a, ns, rfl, hs, hne, q⟩
  obtain ⟨its, rv, hl, _⟩ := I.tuple hs
  rw [Vals.ref1 r]
  match ns, hne with
  | n :: ms, _ =>
    obtain ⟨m1, m2⟩ := maxOf_two ms n
    refine max_tuple_datum (x := n) (xs := ms) (I.ok.hd hc) hl ⟨[], readsAll_ints rv⟩ (by show X.A.units + 1 + 0 < cLine; omega) fun i v h' tk _ hv hk => ?_
    obtain ⟨as, rr⟩ := hv
    have rr2 : Reads h' v (.int (maxOf n ms)) as := rr
    cases rr2
    exact ⟨.int _, H, I.kept hk, ⟨_, rfl⟩, q _ m1 m2⟩
end
end LmCnt

set_option maxHeartbeats 2000000
/-! What the laws share: errors by number, a draw of numbers, a deed tried. -/
namespace Lm
open PySem PySem.Spec PyProof.Rows L2 Evl

/-! ### promises that look into the heap too -/
def spH (r : Hp → List PyData → Out → Prop) : Sp := fun vs H Q E => ∃ G ds o, Ex G H ∧ RpA G vs ds ∧ r G ds o ∧ Want o G H Q E
section
variable {P : Program} {w : World} {K : PySem.W.Frag} {mg : Str → Option Value} {base : Heap} {x : Str} {ps N : List Str} {st : Stmt} {k : Nat} {f : Addr}
theorem has_ofH {r : Hp → List PyData → Out → Prop} (a : At K mg x ps st f) (S : FnScope N ps (defScope st)) (hl : ∀ G ds o, r G ds o → ds.length = ps.length)
    (hbody : ∀ (cdv : Value) (A : Around) (outer : List Env) (s : Shared) (H : Hp) (vs : List V) (Q : VK) (E : XK), Room k (A.deeper (envOfC x (defScope st) s.heap.objs.size f cdv)) →
      (∃ t, PSs (cxOf (L2.CX P w) P w K mg base N x (defScope st) f cdv A outer s H E) (defBody st) t ∧
        ∀ G ds o, Ex G H → RpA G vs ds → r G ds o → Want o G H Q E → t { nx := fun _ H' => Q .non H', rt := Q } (start N vs) H)) : Has P w K mg base x ps (k + 1) (spH r) := by
  obtain ⟨fd, F, b⟩ := a.ex
  refine ⟨f, fd, a.g, F.kp, b, F.okX S (fun vs H Q E h => ?_) (fun cdv A outer s H vs Q E hr h => ?_)⟩
  · obtain ⟨G, ds, o, _, rp, h, _⟩ := h
    rw [rp.len]
    exact hl G ds o h
  · obtain ⟨t, h1, h2⟩ := hbody cdv A outer s H vs Q E hr
    obtain ⟨G, ds, o, e, rp, h, q⟩ := h
    exact ⟨t, h1, h2 G ds o e rp h q⟩
end
section
variable {K : PySem.W.Frag} {σ : L2.St} {G : Hp} {tr : TA} {ds : List PyData} {o : Out} {E : XK} {d : PyData}
theorem ex_callH {r : Hp → List PyData → Out → Prop} (h : EdA tr σ G ds) (hr : ∀ G', Ex G G' → r G' ds o) : EvX (tCall (spH r) [] E tr) E σ G o := fun H x Q q =>
  h H x _ fun vs G1 H1 p rs => ⟨G1, ds, o, p.sub, by rw [List.append_nil]; exact rs, hr G1 p.ext, q.go p⟩
theorem ed_callH {r : Hp → List PyData → Out → Prop} (h : EdA tr σ G ds) (hr : ∀ G', Ex G G' → r G' ds (.val d)) : EvD (tCall (spH r) [] E tr) σ G d := EvX.toD (E := E) (ex_callH h hr)
end

/-! ### the errors, by number: NoPile, NoRow, NoMove, TooGreat, Below, NoText -/
structure ErrTxt (K : PySem.W.Frag) (mg : Str → Option Value) where
  M : Addr
  c : Nat → Addr
  gM : mg "MarkError" = some (.ref M)
  g0 : mg "NoPile" = some (.ref (c 0))
  g1 : mg "NoRow" = some (.ref (c 1))
  g2 : mg "NoMove" = some (.ref (c 2))
  g3 : mg "TooGreat" = some (.ref (c 3))
  g4 : mg "Below" = some (.ref (c 4))
  g5 : mg "NoText" = some (.ref (c 5))
  k : ∀ i, i < 6 → PySem.W.keepIn K (.ref (c i)) = true
  x : ∀ i, i < 6 → PySem.W.excIn K (c i) [.type "ValueError", .type "Exception", .type "BaseException", .type "object"] "ValueError.__new__" = true
  e : ∀ i, i < 6 → PySem.W.subIn K (.ref (c i)) (.type "BaseException") = some true
  t : ∀ i, i < 6 → PySem.W.typeIn K (.ref (c i)) = some (.type "type")
  q : ∀ i, i < 6 → ExcC K (c i)
  kit : ∀ i j, i < 6 → j < 6 → PySem.W.kitOne K (.ref (c i)) (.ref (c j)) = some (decide (i = j))
  kitV : ∀ i, i < 6 → PySem.W.kitOne K (.ref (c i)) (.type "ValueError") = some true
  exm : ∀ i, i < 6 → PySem.W.exmOne K (.ref (c i)) (.ref M) = some true
  exo : ∀ i j, i < 6 → j < 6 → PySem.W.exmOne K (.ref (c i)) (.ref (c j)) = some (decide (i = j))
def errName : Nat → Str
  | 0 => "NoPile"
  | 1 => "NoRow"
  | 2 => "NoMove"
  | 3 => "TooGreat"
  | 4 => "Below"
  | _ => "NoText"
section
variable {K : PySem.W.Frag} {mg : Str → Option Value} {σ : L2.St} {G : Hp} {ta tb : TE}
theorem ed_isErr {a D C : Addr} {b : Bool} (h : EvD ta σ G (opq a)) (k : Ev tb σ G (.ref C)) (hG : G a = some (LmExc.ErrO D a)) (q : ExcC K D) (e : PySem.W.kitOne K (.ref D) (.ref C) = some b) :
    EvD (tCB (LmExc.rIsErr K) (tCons ta (tCons tb tNil))) σ G (.bool b) := fun H x Q c =>
  h H x _ fun v G1 H1 p r => k H1 (x.trans p.old) _ fun H2 e2 => by
    cases r
    exact ⟨a, D, .ref C, .ref C, b, rfl, e2 _ _ (p.sub _ _ (p.ext _ _ hG)), q, fun u z => z, e, c _ G1 H2 (p.on e2) (.bl _)⟩
theorem ed_isErrT {a D : Addr} {S : String} {b : Bool} (h : EvD ta σ G (opq a)) (k : Ev tb σ G (.ty S)) (hG : G a = some (LmExc.ErrO D a)) (q : ExcC K D) (e : PySem.W.kitOne K (.ref D) (.type S) = some b) :
    EvD (tCB (LmExc.rIsErr K) (tCons ta (tCons tb tNil))) σ G (.bool b) := fun H x Q c =>
  h H x _ fun v G1 H1 p r => k H1 (x.trans p.old) _ fun H2 e2 => by
    cases r
    exact ⟨a, D, .ty S, .type S, b, rfl, e2 _ _ (p.sub _ _ (p.ext _ _ hG)), q, fun u z => z, e, c _ G1 H2 (p.on e2) (.bl _)⟩
def rWord (R : ErrTxt K mg) : Hp → List PyData → Out → Prop := fun G ds o => ∃ a i, i < 6 ∧ ds = [opq a] ∧ G a = some (LmExc.ErrO (R.c i) a) ∧ o = .val (.str (errName i))
/-- what a deed tells, or its refusal's name -/
def Tried (R : ErrTxt K mg) (o : Out) (d : PyData) : Prop := match o with
  | .val x => d = x
  | .err C => ∃ i, i < 6 ∧ C = R.c i ∧ d = .str (errName i)
/-- Dd: the deeds that may be handed in, with what they promise -/
def rTried (R : ErrTxt K mg) (Dd : Addr → (List PyData → Out → Prop) → Prop) : List PyData → Out → Prop := fun ds o =>
  ∃ f rel l o' d, ds = [opq f, .list l] ∧ (l.length = 1 ∨ l.length = 2) ∧ Dd f rel ∧ rel l o' ∧ Tried R o' d ∧ o = .val d
end
/-! ### the draw -/
def mixI (c k : Int) : Int := ((c * 48271 + 7919 * k * k + 31 * k + 5) % 2147483647) * ((c * 48271 + 7919 * k * k + 31 * k + 5) % 2147483647 + 2 * k + 1) % 2147483629
theorem mixI_nn (c k : Int) : 0 ≤ mixI c k := Int.emod_nonneg _ (by decide)
theorem mixI_lt (c k : Int) : mixI c k < 2147483629 := Int.emod_lt_of_pos _ (by decide)
def rMix : List PyData → Out → Prop := fun ds o => ∃ c k, ds = [.int c, .int k] ∧ 0 ≤ k ∧ k ≤ 1000000 ∧ o = .val (.int (mixI c k))
def placeI (n : Int) : Int := match (n % 8).toNat with
  | 0 => n / 8 % 12
  | 1 => n / 8 % 6
  | 2 => n / 8 % 30
  | 3 => n / 8 % 100
  | 4 => 0
  | 5 => 1
  | 6 => n / 8 % 3
  | _ => 60
theorem placeI_in (n : Int) : 0 ≤ placeI n ∧ placeI n ≤ 99 := by
  unfold placeI
  split <;> omega
def rLPlace : List PyData → Out → Prop := fun ds o => ∃ n, ds = [.int n] ∧ o = .val (.int (placeI n))
/-- the numbers of a script, from one on, each with its place -/
def drawI (ns : List Int) (k0 : Int) : List Int := (List.range ns.length).map fun k => placeI (mixI (ns.getD k 0) (k0 + (k : Nat)))
def cutI (ns : List Int) (f m : Nat) : List Int := (ns.drop f).take m
def pileS (ns : List Int) (f m : Nat) : List Int := srt (drawI (cutI ns f m) 11)
def rLPile (K : PySem.W.Frag) : Hp → List PyData → Out → Prop := fun G ds o => ∃ (a : Addr) (ns : List Int) (f m : Nat), ds = [opq a, .int (f : Nat), .int (m : Nat)] ∧ SqL K G a (ns.map V.int) ∧ ns.length ≤ 100 ∧ f ≤ 1000 ∧ m ≤ 1000 ∧
  o = .val (.tuple ((pileS ns f m).map .int))
def rLWorth : List PyData → Out → Prop := fun ds o => ∃ ns : List Int, ds = [.tuple (ns.map .int)] ∧ ns.length ≤ 1000 ∧ (∀ n ∈ ns, 0 ≤ n ∧ n ≤ 100) ∧ o = .val (.int (worthI ns))
theorem cut_nat {α : Type} (xs : List α) (f m : Nat) : (xs.drop (min f xs.length)).take (min (f + m) xs.length - min f xs.length) = (xs.drop f).take m := by
  by_cases h : f ≤ xs.length
  · rw [Nat.min_eq_left h]
    by_cases h2 : f + m ≤ xs.length
    · rw [Nat.min_eq_left h2, Nat.add_sub_cancel_left]
    · rw [Nat.min_eq_right (by omega), List.take_of_length_le (by rw [List.length_drop]; omega), List.take_of_length_le (by rw [List.length_drop]; omega)]
  · rw [Nat.min_eq_right (a := f) (by omega), Nat.min_eq_right (a := f + m) (by omega), Nat.sub_self, List.take_zero, List.drop_eq_nil_of_le (i := f) (by omega), List.take_nil]
theorem cutV_nat (ns : List Int) (f m : Nat) : cutV (ns.map V.int) (some (f : Int)) (some ((f : Int) + (m : Int))) = (cutI ns f m).map V.int := by
  unfold cutV cutI
  rw [show ((f : Int) + (m : Int)) = ((f + m : Nat) : Int) by omega, HT.sIx_nat, HT.sIx_nat, List.length_map]
  have e := cut_nat (ns.map V.int) f m
  rw [List.length_map] at e
  rw [e, List.map_take, List.map_drop]
theorem cutV_pre (ns : List Int) (m : Nat) : cutV (ns.map V.int) none (some (m : Int)) = (ns.take m).map V.int := by
  unfold cutV
  rw [HT.sIx_none, HT.sIx_nat, List.length_map, List.drop_zero, Nat.sub_zero]
  by_cases h : m ≤ ns.length
  · rw [Nat.min_eq_left h, List.map_take]
  · rw [Nat.min_eq_right (by omega), List.take_of_length_le (by rw [List.length_map]; omega), List.take_of_length_le (by omega)]
section
variable {K : PySem.W.Frag} {σ : L2.St} {G : Hp} {te : TE} {tl th : TO} {wi : TI} {ns : List Int}
theorem ofEvL (h : EvL te σ G (ns.map V.int)) : EvD te σ G (.list (ns.map .int)) := fun H x Q q =>
  h H x _ fun p H2 n x2 e => q (.ref p) _ H2 (part_new x n x2 e) (.lst upd_same (RpA.ofInts ns))
/-- a slice of the script -/
theorem ed_slS {a : Addr} {lo hi : Option Int} {ms : List Int} (h : Ev te σ G (.ref a)) (h1 : EvO tl σ G lo) (h2 : EvO th σ G hi) (hs : SqL K G a (ns.map V.int)) (e : cutV (ns.map V.int) lo hi = ms.map V.int) :
    EvD (tSl (rSlL K) te tl th) σ G (.list (ms.map .int)) := by
  have k := el_sl (K := K) h h1 h2 hs
  rw [e] at k
  exact ofEvL k
theorem enD_ints (ns : List Int) : enD (ns.map .int) = (List.range ns.length).map fun k => .tuple [.int (k : Nat), .int (ns.getD k 0)] := by
  unfold enD
  rw [List.length_map]
  refine List.map_congr_left fun k hk => ?_
  have hl : k < ns.length := List.mem_range.mp hk
  rw [List.getD_eq_getElem?_getD, List.getElem?_map, List.getD_eq_getElem?_getD, List.getElem?_eq_getElem hl]
  rfl
/-- [.. for k, c in enumerate(numbers)] -/
theorem ed_lcEn {j l : Nat} (F : Int → Int → PyData) (h : EvI wi σ G (enD (ns.map .int))) (hz : ns.length ≤ 100000) (hw : ∀ x y, wipe (((wipe σ [j, l]).set j (some x)).set l (some y)) [j, l] = wipe σ [j, l])
    (he : ∀ (k : Nat) (c : Int) (G' : Hp), Ex G G' → k < ns.length → ns[k]? = some c → EvD te (((wipe σ [j, l]).set j (some (.int (k : Nat)))).set l (some (.int c))) G' (F (k : Nat) c)) :
    EvD (tLc wi (gTup K 2 (gCons (gName j) (gCons (gName l) gNil))) tYes te [j, l]) σ G (.list ((List.range ns.length).map fun k => F (k : Nat) (ns.getD k 0))) := by
  refine (ed_lc (fun _ => true) (fun d => match d with | .tuple [.int a, .int b] => F a b | _ => .none) h (by rw [enD_len, List.length_map]; exact hz) (turn_two ?_ hw (fun _ _ _ _ _ _ _ _ _ _ => et_yes) fun i a b x y G' e' hi ra rb _ => ?_)).is ?_
  · intro d hd
    unfold enD at hd
    obtain ⟨z, _, e3⟩ := List.mem_map.mp hd
    exact ⟨_, _, e3.symm⟩
  · rw [enD_ints, List.getElem?_map] at hi
    have hl : i < ns.length := by
      cases q : (List.range ns.length)[i]? with
      | none =>
        rw [q] at hi
        cases hi
      | some k =>
        have := (List.getElem?_eq_some_iff.mp q).1
        rw [List.length_range] at this
        exact this
    rw [List.getElem?_range hl] at hi
    have e1 : PyData.tuple [.int (i : Nat), .int (ns.getD i 0)] = .tuple [a, b] := Option.some.inj hi
    cases e1
    cases ra
    cases rb
    refine he i (ns.getD i 0) G' e' hl ?_
    rw [List.getD_eq_getElem?_getD, List.getElem?_eq_getElem hl]
    rfl
  · rw [lcD_all, enD_ints, List.map_map]
    rfl
end
/-- the refusals and whether it is one of them -/
def wordsD (i : Nat) : List PyData := [.tuple [.str "NoPile", .bool (decide (i = 0))], .tuple [.str "NoRow", .bool (decide (i = 1))], .tuple [.str "NoMove", .bool (decide (i = 2))], .tuple [.str "TooGreat", .bool (decide (i = 3))], .tuple [.str "Below", .bool (decide (i = 4))],
  .tuple [.str "NoText", .bool (decide (i = 5))]]
def wordsF : PyData → Bool
  | .tuple [_, .bool b] => b
  | _ => false
def wordsW : PyData → PyData
  | .tuple [a, _] => a
  | _ => .none
theorem words_one {i : Nat} (h : i < 6) : lcD wordsF wordsW (wordsD i) = [.str (errName i)] := by
  match i, h with
  | 0, _ => rfl
  | 1, _ => rfl
  | 2, _ => rfl
  | 3, _ => rfl
  | 4, _ => rfl
  | 5, _ => rfl
theorem words_pair {i : Nat} {d : PyData} (h : d ∈ wordsD i) : ∃ s b, d = .tuple [.str s, .bool b] := by
  unfold wordsD at h
  simp only [List.mem_cons, List.not_mem_nil, or_false] at h
  rcases h with rfl | rfl | rfl | rfl | rfl | rfl
  all_goals exact ⟨_, _, rfl⟩
theorem shaped_int (n : Int) : SeqAt.shaped (.int n) = true := rfl
theorem shaped_bool (n : Bool) : SeqAt.shaped (.bool n) = true := rfl
section
variable {P : Program} {w : World} {K : PySem.W.Frag} {mg : Str → Option Value} {base : Heap} {x : Str} {ps : List Str} {k j : Nat} {sp : Sp} {f : Addr}
theorem Has.callee (h : Has P w K mg base x ps k sp) (g : mg x = some (.ref f)) (hk : k ≤ j) : LmExc.Callee P w K mg base j f sp := by
  obtain ⟨f', fd, h1, h2, h3, h4⟩ := h.ex
  rw [g] at h1
  cases h1
  exact ⟨fd, ps, h4.mono hk, h2, h3⟩
end
section
variable {K : PySem.W.Frag} {σ : L2.St} {G G0 H H0 : Hp} {ta : TE} {d : PyData}
theorem ed_isN1 (h : EvD ta σ G d) : EvD (tOp rIsN ta (tC .non)) σ G (.bool (isN d)) := fun H x Q q =>
  h H x _ fun v G1 H1 p r => by
    have e : decide (v = V.non) = isN d := by cases r <;> rfl
    refine ⟨rfl, ?_⟩
    rw [e]
    exact q _ G1 H1 p (.bl _)
theorem ed_notN1 (h : EvD ta σ G d) : EvD (tOp rNotN ta (tC .non)) σ G (.bool (!isN d)) := fun H x Q q =>
  h H x _ fun v G1 H1 p r => by
    have e : decide (v = V.non) = isN d := by cases r <;> rfl
    refine ⟨rfl, ?_⟩
    rw [e]
    exact q _ G1 H1 p (.bl _)
/-- the reading of a try that keeps the error: a call of a deed, its answer to slot i, an error to slot j by way of slot e -/
theorem d_try {R : ErrTxt K mg} {S : Addr → Sp → Prop} {i j e n : Nat} {tr : TA} {D : Ends} {rel : List PyData → Out → Prop} {f : Addr} {ds : List PyData} {o : Out} (P : Part G0 H0 G H) (h : EdA tr σ G ds) (hf : σ[n]? = some (some (.ref f))) (hS : S f (spO rel)) (hr : rel ds o)
    (he : ∀ C, o = .err C → ∃ k, k < 6 ∧ C = R.c k) (hs : ∀ v : V, (σ.set e (some v))[e]? = some (some v)) (k1 : ∀ d, o = .val d → ∀ v G' H', Part G0 H0 G' H' → Ex G G' → Rp G' v d → D.nx (σ.set i (some v)) H')
    (k2 : ∀ k, k < 6 → o = .err (R.c k) → ∀ a G' H', Part G0 H0 G' H' → Ex G G' → G' a = some (LmExc.ErrO (R.c k) a) → D.nx (((σ.set e (some (.ref a))).set j (some (.ref a))).set e none) H') :
    tAsg (LmExc.tCallHS n S (WE (LmExc.wHeld K (.ref R.M) e (fun _ => tAsg (tVar e) (gName j)) D)) tr) (gName i) D σ H :=
  ⟨f, spO rel, hf, hS, h H P.sub _ fun vs G1 H1 p rs => ⟨G1, ds, o, p.sub, rs, hr, by
    cases o with
    | val d => exact fun v G' H' p2 r => k1 d rfl v G' H' (P.trans (p.trans p2)) (p.ext.trans p2.ext) r
    | err C =>
      obtain ⟨k, hk, rfl⟩ := he C rfl
      refine fun H' x => ⟨_, rfl, rfl, R.exm k hk, fun a ha => ⟨.ref a, hs _, ?_⟩⟩
      have pz := ((P.trans p).on x).add (o := LmExc.ErrO (R.c k) a) ha
      exact k2 k hk rfl a _ _ pz (p.ext.trans (Ex.new (fresh_back ((P.trans p).on x).sub ha))) upd_same⟩⟩
end
/-! ### rows by their neighbours -/
def looseI (ns : List Int) : Bool := (nx ns).all fun p => decide (1 < p.2 - p.1)
theorem nx_len (ns : List Int) : (nx ns).length = ns.length - 1 := by
  unfold nx
  rw [List.length_zip, List.length_drop]
  omega
theorem nx_at {ns : List Int} {k : Nat} (h : k + 1 < ns.length) : (nx ns)[k]? = some (ns.getD k 0, ns.getD (k + 1) 0) := by
  unfold nx
  rw [List.getElem?_zip_eq_some, List.getElem?_drop, Nat.add_comm 1 k, List.getD_eq_getElem?_getD, List.getD_eq_getElem?_getD, List.getElem?_eq_getElem (show k < ns.length by omega), List.getElem?_eq_getElem h]
  exact ⟨rfl, rfl⟩
theorem nx_all {ns : List Int} {f : Int × Int → Bool} : (nx ns).all f = true ↔ ∀ k, k + 1 < ns.length → f (ns.getD k 0, ns.getD (k + 1) 0) = true := by
  rw [List.all_eq_true]
  refine ⟨fun h k hk => h _ (List.mem_of_getElem? (nx_at hk)), fun h p hp => ?_⟩
  obtain ⟨k, e⟩ := List.mem_iff_getElem?.mp hp
  have hk := (List.getElem?_eq_some_iff.mp e).1
  rw [nx_len] at hk
  rw [nx_at (by omega)] at e
  cases e
  exact h k (by omega)
theorem isRow_ints (ns : List Int) : isRowD (.tuple (ns.map .int)) = (pileI ns && looseI ns) := by
  unfold isRowD
  rw [isPile_ints]
  show (pileI ns && ((nx ((ns.map PyData.int).map toI)).all fun p => decide (1 < p.2 - p.1))) = _
  rw [toI_map]
  rfl
theorem near_eq (ns : List Int) (k : Nat) : (decide (ns.getD ((1 : Int) + (k : Nat)).toNat 0 - ns.getD (((1 : Int) + (k : Nat)).toNat - 1) 0 < 2)) = decide (ns.getD (k + 1) 0 - ns.getD k 0 < 2) := by
  rw [show ((1 : Int) + (k : Nat)).toNat = k + 1 by omega, Nat.add_sub_cancel]
/-- what the law's own look at the neighbours finds -/
def nearF (ns : List Int) : PyData → Bool
  | .int a => decide (ns.getD a.toNat 0 - ns.getD (a.toNat - 1) 0 < 2)
  | _ => false
theorem near_none (ns : List Int) : PyData.eqv (.int ((lcD (nearF ns) (fun d => d) (rgD 1 (ns.length - 1))).length : Nat)) (.int 0) = looseI ns := by
  have e1 : PyData.eqv (.int ((lcD (nearF ns) (fun d => d) (rgD 1 (ns.length - 1))).length : Nat)) (.int 0) = ((((lcD (nearF ns) (fun d => d) (rgD 1 (ns.length - 1))).length : Nat) : Int) == 0) := by simp [PyData.eqv]
  rw [e1, Bool.eq_iff_iff]
  unfold looseI lcD
  rw [nx_all, beq_iff_eq, List.length_map]
  constructor
  · intro h k hk
    have h0 : (rgD 1 (ns.length - 1)).filter (nearF ns) = [] := List.length_eq_zero_iff.mp (by omega)
    rw [List.filter_eq_nil_iff] at h0
    have h2 := h0 _ (List.mem_of_getElem? (rgD_at (lo := 1) (n := ns.length - 1) (i := k) (by omega)))
    have e2 : nearF ns (.int (1 + (k : Nat))) = decide (ns.getD (k + 1) 0 - ns.getD k 0 < 2) := near_eq ns k
    rw [e2] at h2
    have h3 : ¬ (ns.getD (k + 1) 0 - ns.getD k 0 < 2) := by simpa using h2
    exact decide_eq_true (by show 1 < ns.getD (k + 1) 0 - ns.getD k 0; omega)
  · intro h
    have h0 : (rgD 1 (ns.length - 1)).filter (nearF ns) = [] := by
      rw [List.filter_eq_nil_iff]
      intro d hd
      unfold rgD at hd
      obtain ⟨k, hk, rfl⟩ := List.mem_map.mp hd
      have hk2 := List.mem_range.mp hk
      have h2 := of_decide_eq_true (h k (by omega))
      have h3 : (1 : Int) < ns.getD (k + 1) 0 - ns.getD k 0 := h2
      intro z
      have z2 := (near_eq ns k).symm.trans z
      have := of_decide_eq_true z2
      omega
    rw [h0]
    rfl
def rLLoose : List PyData → Out → Prop := fun ds o => ∃ ns : List Int, ds = [.tuple (ns.map .int)] ∧ ns.length ≤ 1000 ∧ o = .val (.bool (looseI ns))
/-- the answers are as they are due -/
def rLooked : List PyData → Out → Prop := fun ds o => ∃ d g l, ds = [d, .bool g, .bool l] ∧ plainD d = true ∧ isPileD d = g ∧ isRowD d = l ∧ o = .val (.bool true)
/-- a thing that is no pile -/
def rLBad : List PyData → Out → Prop := fun ds o => ∃ (ns : List Int) (n : Int) (d : PyData), ds = [.tuple (ns.map .int), .int n] ∧ ns.length ≤ 240 ∧ o = .val d ∧ plainD d = true ∧ isPileD d = false
section
variable {σ : L2.St} {G : Hp}
theorem ed_disp01 : EvD (tDisp [(tC (.int 0), tC (.int 1))]) σ G (.dict []) := fun H x Q q p hp => by
  refine ⟨upd_same, [(.inl 0, .int 1)], rfl, by decide, ?_⟩
  have e : upd (upd H p (.dK [])) p (.dK (mergeK [] [(Sum.inl 0, V.int 1)])) = upd H p (.dK (mergeK [] [(Sum.inl 0, V.int 1)])) := upd_upd
  rw [e]
  exact q _ _ _ ((Part.refl x).add hp) (.dic upd_same)
end
theorem kit_bb : kitB "bool" "bool" = some true := by decide +kernel
/-- what need_pile, need_row tell when tried -/
def needD (i : Nat) (b : Bool) : PyData := if b = true then .none else .str (errName i)
theorem need_shaped (i : Nat) (h : i < 2) (b : Bool) : SeqAt.shaped (needD i b) = true := by
  cases b with
  | true => rfl
  | false =>
    match i, h with
    | 0, _ => decide +kernel
    | 1, _ => decide +kernel
theorem need_eqv (i : Nat) (h : i < 2) (b : Bool) : PyData.eqv (needD i b) (needD i b) = true := by
  cases b with
  | true => rfl
  | false =>
    match i, h with
    | 0, _ => rfl
    | 1, _ => rfl
section
variable {K : PySem.W.Frag} {mg : Str → Option Value} {σ : L2.St} {G : Hp} {ta : TE}
theorem need_tried (R : ErrTxt K mg) {i : Nat} (hi : i < 6) (b : Bool) : Tried R (if b = true then .val .none else .err (R.c i)) (needD i b) := by
  cases b with
  | true => rfl
  | false => exact ⟨i, hi, rfl, rfl⟩
theorem ed_due {s : Str} {i : Nat} {b : Bool} (h : EvD ta σ G (.bool b)) (e : s = errName i) : EvD (tOp (rIxL K) (tLst (tCons (tC (.str s)) (tCons (tC .non) tNil))) (tCB (fun xs H Q => (∃ i, xs = [.int i] ∧ Q (.int i) H) ∨ ∃ k, xs = [.bl k] ∧ Q (.int (if k then 1 else 0)) H) (tCons ta tNil))) σ G (needD i b) := by
  refine ed_ixL (ed_lst (ea_cons ed_str (ea_cons ed_non ea_nil)) (by show 2 ≤ 100000; decide)) (ed_intB h) ?_
  subst e
  cases b <;> rfl
end
theorem not_pile_mem {l : List PyData} {x : PyData} (h : x ∈ l) (hx : isPlaceD x = false) : isPileD (.tuple l) = false := by
  rw [isPile_tuple]
  have : l.all isPlaceD = false := by
    rw [List.all_eq_false]
    exact ⟨x, h, by rw [hx]; decide⟩
  rw [this, Bool.false_and, Bool.and_false]
def badD (ns : List Int) : List PyData := [.tuple ((ns.take 1).map .int ++ [.bool true]), .tuple (ns.map .int ++ [.int 100]), .tuple ([.int (-1)] ++ ns.map .int), .tuple (ns.map .int ++ [.str "7"]), .list (ns.map .int), .none, .int 5, .str "1 2"] ++
  [.tuple (ns.map .int ++ [.none]), .tuple ([.int 99] ++ ns.map .int ++ [.int 0]), .tuple (List.replicate 241 [PyData.int 0]).flatten, .tuple [.int 1, .int 0], .tuple [.tuple [.int 0]], .bool true, .dict []]
theorem plain_app (ns : List Int) (x : PyData) (h : (tyD x).isSome = true) : plainD (.tuple (ns.map .int ++ [x])) = true := by
  show ((ns.map PyData.int ++ [x]).all fun d => (tyD d).isSome) = true
  rw [List.all_append, List.all_map]
  have : (ns.all ((fun d => (tyD d).isSome) ∘ PyData.int)) = true := List.all_eq_true.mpr fun _ _ => rfl
  rw [this, List.all_cons, h]
  rfl
theorem bad_all (ns : List Int) : ∀ d ∈ badD ns, plainD d = true ∧ isPileD d = false := by
  intro d h
  unfold badD at h
  simp only [List.cons_append, List.nil_append, List.mem_cons, List.not_mem_nil, or_false] at h
  rcases h with rfl | rfl | rfl | rfl | rfl | rfl | rfl | rfl | rfl | rfl | rfl | rfl | rfl | rfl | rfl
  · exact ⟨plain_app _ _ rfl, not_pile_mem (List.mem_append_right _ List.mem_cons_self) rfl⟩
  · exact ⟨plain_app _ _ rfl, not_pile_mem (List.mem_append_right _ List.mem_cons_self) rfl⟩
  · exact ⟨plain_ints (-1 :: ns), not_pile_mem List.mem_cons_self rfl⟩
  · exact ⟨plain_app _ _ rfl, not_pile_mem (List.mem_append_right _ List.mem_cons_self) rfl⟩
  · exact ⟨rfl, rfl⟩
  · exact ⟨rfl, rfl⟩
  · exact ⟨rfl, rfl⟩
  · exact ⟨rfl, rfl⟩
  · exact ⟨plain_app _ _ rfl, not_pile_mem (List.mem_append_right _ List.mem_cons_self) rfl⟩
  · have e : (PyData.int 99 :: (ns.map PyData.int ++ [PyData.int 0])) = (99 :: (ns ++ [0])).map PyData.int := by
      rw [List.map_cons, List.map_append]
      rfl
    rw [e]
    refine ⟨plain_ints _, ?_⟩
    rw [isPile_ints]
    cases h : pileI (99 :: (ns ++ [0])) with
    | false => rfl
    | true =>
      unfold pileI at h
      rw [Bool.and_eq_true, Bool.and_eq_true] at h
      have r := (List.pairwise_cons.mp (nx_rise h.2.2)).1 0 (List.mem_append_right _ List.mem_cons_self)
      exact absurd r (by decide)
  · exact ⟨by decide +kernel, by decide +kernel⟩
  · exact ⟨rfl, rfl⟩
  · exact ⟨rfl, rfl⟩
  · exact ⟨rfl, rfl⟩
  · exact ⟨rfl, rfl⟩
theorem badD_len (ns : List Int) : (badD ns).length = 15 := rfl
theorem cut_one (ns : List Int) : cutD (ns.map PyData.int) none (some 1) = (ns.take 1).map .int := by
  unfold cutD
  rw [HT.sIx_none, show HT.sIx (ns.map PyData.int).length (ns.map PyData.int).length (some 1) = min 1 (ns.map PyData.int).length from HT.sIx_nat _ _ 1, List.drop_zero, Nat.sub_zero]
  cases ns with
  | nil => rfl
  | cons a r =>
    rw [show min 1 ((a :: r).map PyData.int).length = 1 by rw [List.length_map, List.length_cons]; omega, List.map_take]
section
variable {K : PySem.W.Frag} {σ : L2.St} {G : Hp} {ta tb : TE} {ds : List PyData}
theorem ed_repL {k : Int} (h : EvD ta σ G (.list ds)) (hk : EvD tb σ G (.int k)) (c : -(2 ^ 63) ≤ k ∧ k < 2 ^ 63 ∧ ds.length * k.toNat ≤ 100000) : EvD (tOp rRep ta tb) σ G (.list (List.replicate k.toNat ds).flatten) := fun H x Q q =>
  h H x _ fun v G1 H1 p r => (hk.mono p.ext) H1 p.sub _ fun w G2 H2 p2 r2 => by
    cases r with
    | lst a b =>
      cases r2
      refine ⟨_, k, _, rfl, rfl, p2.sub _ _ (p2.ext _ _ a), c.1, c.2.1, by rw [b.len]; exact sz_of c.2.2, fun l n => ?_⟩
      exact q _ _ _ ((p.trans p2).add n) (.lst upd_same ((rep_rp (b.up p2.ext) k.toNat).up (Ex.new (fresh_back p2.sub n))))
end
theorem rep_ints (k : Nat) (n : Int) : (List.replicate k [PyData.int n]).flatten = (List.replicate k n).map .int := by
  rw [List.map_replicate]
  induction k with
  | zero => rfl
  | succ k ih => rw [List.replicate_succ, List.flatten_cons, ih, List.replicate_succ]; rfl
def goodNs : List (List Int) := [[], [0], [99], List.replicate 240 0, List.replicate 240 99, [0, 99], [0, 1], [0, 2]]
theorem good_all : ∀ ns ∈ goodNs, pileI ns = true ∧ ns.length ≤ 1000 := by
  intro ns h
  unfold goodNs at h
  simp only [List.mem_cons, List.not_mem_nil, or_false] at h
  rcases h with rfl | rfl | rfl | rfl | rfl | rfl | rfl | rfl
  all_goals exact ⟨by decide +kernel, by decide +kernel⟩
def offNs : List (List Int) := [List.replicate 241 0, [100], [-1]]
theorem off_all : ∀ ns ∈ offNs, pileI ns = false := by
  intro ns h
  unfold offNs at h
  simp only [List.mem_cons, List.not_mem_nil, or_false] at h
  rcases h with rfl | rfl | rfl
  all_goals decide +kernel
def tupsD (l : List (List Int)) : List PyData := l.map fun ns => .tuple (ns.map .int)
theorem tups_mem {l : List (List Int)} {d : PyData} (h : d ∈ tupsD l) : ∃ ns, ns ∈ l ∧ d = .tuple (ns.map .int) := by
  unfold tupsD at h
  obtain ⟨ns, h1, h2⟩ := List.mem_map.mp h
  exact ⟨ns, h1, h2.symm⟩
theorem draw_in (ns : List Int) (k0 : Int) : (drawI ns k0).all inI = true := by
  rw [List.all_eq_true]
  intro x hx
  unfold drawI at hx
  obtain ⟨k, _, rfl⟩ := List.mem_map.mp hx
  have := placeI_in (mixI (ns.getD k 0) (k0 + (k : Nat)))
  unfold inI
  rw [decide_eq_true this.1, decide_eq_true this.2]
  rfl
theorem draw_len (ns : List Int) (k0 : Int) : (drawI ns k0).length = ns.length := by
  unfold drawI
  rw [List.length_map, List.length_range]
theorem cutI_len (ns : List Int) (f m : Nat) : (cutI ns f m).length ≤ ns.length ∧ (cutI ns f m).length ≤ m := by
  unfold cutI
  rw [List.length_take, List.length_drop]
  omega
theorem pileS_len (ns : List Int) (f m : Nat) : (pileS ns f m).length ≤ ns.length ∧ (pileS ns f m).length ≤ m := by
  unfold pileS
  rw [srt_len, draw_len]
  exact cutI_len ns f m
theorem pileS_pile {ns : List Int} {f m : Nat} (h : ns.length ≤ 240) : pileI (pileS ns f m) = true := by
  unfold pileS
  rw [pile_srt, draw_in, draw_len, decide_eq_true (by have := cutI_len ns f m; omega)]
  rfl
theorem pile_in {ns : List Int} (h : pileI ns = true) : ∀ n ∈ ns, 0 ≤ n ∧ n ≤ 99 := by
  unfold pileI at h
  rw [Bool.and_eq_true, Bool.and_eq_true] at h
  intro n hn
  have k := List.all_eq_true.mp h.2.1 n hn
  unfold inI at k
  rw [Bool.and_eq_true] at k
  exact ⟨of_decide_eq_true k.1, of_decide_eq_true k.2⟩
theorem eqv_ints : ∀ (ns : List Int), PyData.eqvAll (ns.map .int) (ns.map .int) = true
  | [] => rfl
  | n :: ns => by
    show (PyData.eqv (.int n) (.int n) && PyData.eqvAll (ns.map .int) (ns.map .int)) = true
    rw [eqv_ints ns]
    simp [PyData.eqv]
theorem lay_ints : ∀ (ns : List Int), PyData.canLayAll0 (ns.map .int) = true
  | [] => rfl
  | n :: ns => by
    show (PyData.canLay0 (.int n) && PyData.canLayAll0 (ns.map .int)) = true
    rw [lay_ints ns]
    rfl
theorem depth_ints : ∀ (ns : List Int), PyData.depthAll (ns.map .int) = 0
  | [] => rfl
  | n :: ns => by
    show max (PyData.depth (.int n)) (PyData.depthAll (ns.map .int)) = 0
    rw [depth_ints ns]
    rfl
theorem shaped_tup (ns : List Int) : SeqAt.shaped (.tuple (ns.map .int)) = true := by
  show (PyData.canLayAll0 (ns.map .int) && decide (PyData.depthAll (ns.map .int) + 1 ≤ 64)) = true
  rw [lay_ints, depth_ints]
  rfl
theorem shaped_lst (ns : List Int) : SeqAt.shaped (.list (ns.map .int)) = true := by
  show (PyData.canLayAll0 (ns.map .int) && decide (PyData.depthAll (ns.map .int) + 1 ≤ 64)) = true
  rw [lay_ints, depth_ints]
  rfl
theorem eqv_tup (ns : List Int) : PyData.eqv (.tuple (ns.map .int)) (.tuple (ns.map .int)) = true := eqv_ints ns
theorem eqv_lst (ns : List Int) : PyData.eqv (.list (ns.map .int)) (.list (ns.map .int)) = true := eqv_ints ns
theorem eqv_int (n : Int) : PyData.eqv (.int n) (.int n) = true := by simp [PyData.eqv]
theorem kit_tt : kitB "tuple" "tuple" = some true := by decide +kernel
theorem kit_ib : kitB "int" "bool" = some false := by decide +kernel
/-- one of the bad things -/
def rLBad' : List PyData → Out → Prop := fun ds o => ∃ (ns : List Int) (n : Int), ds = [.tuple (ns.map .int), .int n] ∧ ns.length ≤ 240 ∧ o = .val ((badD ns).getD (n % 15).toNat .none)
theorem bad_one (ns : List Int) (n : Int) : plainD ((badD ns).getD (n % 15).toNat .none) = true ∧ isPileD ((badD ns).getD (n % 15).toNat .none) = false := by
  have h0 : 0 ≤ n % 15 := Int.emod_nonneg _ (by decide)
  have h1 : n % 15 < 15 := Int.emod_lt_of_pos _ (by decide)
  have hm : (n % 15).toNat < (badD ns).length := by
    rw [badD_len]
    omega
  rw [List.getD_eq_getElem?_getD, List.getElem?_eq_getElem hm]
  exact bad_all ns _ (List.getElem_mem hm)
/-- the promise of a law: True, whatever the script -/
def spLaw (K : PySem.W.Frag) : Sp := fun vs H Q _ => ∃ (a : Addr) (ns : List Int), vs = [.ref a] ∧ SqL K H a (ns.map V.int) ∧ ns.length ≤ 63 ∧ ∀ H', Q (.bl true) H'
def rBounds : List PyData → Out → Prop := fun ds o => ds = [] ∧ o = .val (.bool true)
section
variable {K : PySem.W.Frag} {σ : L2.St} {G G0 H H0 : Hp} {D : Ends} {tu tz : TS} {ns : List Int}
/-- for k, c in enumerate(numbers): a word on the slots; the heap only grows -/
theorem d_forEn {wi : TI} {j l : Nat} (P : Part G0 H0 G H) (h : EvI wi σ G (enD (ns.map .int))) (C : L2.St → Prop) (hC : C σ)
    (hs : ∀ (k : Nat) (c : Int) (σ' : L2.St) (G' H' : Hp) (N : L2.St → Hp → Prop), k < ns.length → Ex G G' → Part G0 H0 G' H' → C σ' → (∀ σ2 H2, C σ2 → Ex H' H2 → N σ2 H2) →
      tu { D with nx := N, ct := N, bk := tz D } ((σ'.set j (some (.int (k : Nat)))).set l (some (.int c))) H')
    (hd : ∀ (σ' : L2.St) (G' H' : Hp), C σ' → Ex G G' → Part G0 H0 G' H' → tz D σ' H') :
    tSeq (tFor wi (gTup K 2 (gCons (gName j) (gCons (gName l) gNil))) tu) tz D σ H := by
  refine d_for P h (fun G1 _ σ' H' => C σ' ∧ Part G0 H0 G1 H') (fun G1 H1 p _ _ => ⟨hC, p⟩) (fun G1 i σ' H' _ q => q.2.sub) (fun G1 i x σ' H1 H' hi e1 q y => ?_) fun G1 σ' H' e1 q => hd σ' G1 H' q.1 e1 q.2
  obtain ⟨c, P1⟩ := q
  obtain ⟨G', d, p, e3, r⟩ := y G1 (Ex.refl G1) P1.sub
  rw [enD_len, List.length_map] at hi
  rw [enD_ints, List.getElem?_map, List.getElem?_range hi] at e3
  have e4 := (Option.some.inj e3).symm
  subst e4
  cases r with
  | @tup T xs _ et b =>
    cases b with
    | cons r1 b =>
      cases b with
      | cons r2 b =>
        cases b
        cases r1
        cases r2
        exact ⟨T, _, rfl, .inl (rd_up p.sub et), rfl, _, _, rfl, _, _, rfl, rfl, hs i _ σ' G' H' _ hi (e1.trans p.ext) (P1.trans p) c fun σ2 H2 c2 x2 => ⟨c2, P1.on (p.old.trans x2)⟩⟩
end
theorem row_of_pile {d : PyData} (h : isPileD d = false) : isRowD d = false := by
  unfold isRowD
  rw [h]
  rfl
theorem worthD_ints (ns : List Int) : worthD (.tuple (ns.map .int)) = worthI ns := by
  show worthI ((ns.map PyData.int).map toI) = _
  rw [toI_map]

/-! ### the errors, from the facts that the top leaves -/
structure ErrOne (K : PySem.W.Frag) (C M : Addr) : Prop where
  k : PySem.W.keepIn K (.ref C) = true
  x : PySem.W.excIn K C [.type "ValueError", .type "Exception", .type "BaseException", .type "object"] "ValueError.__new__" = true
  e : PySem.W.subIn K (.ref C) (.type "BaseException") = some true
  t : PySem.W.typeIn K (.ref C) = some (.type "type")
  ic : PySem.W.isClsIn K C = true
  m : PySem.W.subIn K (.ref C) (.ref M) = some true
  v : PySem.W.subIn K (.ref C) (.type "ValueError") = some true
  q : ExcC K C
theorem kit_ref {K : PySem.W.Frag} {D C : Addr} {b : Bool} (h1 : PySem.W.isClsIn K C = true) (h2 : PySem.W.typeIn K (.ref C) = some (.type "type")) (h3 : PySem.W.subIn K (.ref D) (.ref C) = some b) : PySem.W.kitCls K (.ref D) (.ref C) = some b := by
  have h1' : (PySem.W.clsIn K C).isSome = true := h1
  have e : ((PySem.W.clsIn K C).isSome && PySem.W.typeIn K (.ref C) == some (.type "type")) = true := by rw [h1', h2] <;> rfl
  show (if ((PySem.W.clsIn K C).isSome && PySem.W.typeIn K (.ref C) == some (.type "type")) = true then PySem.W.subIn K (.ref D) (.ref C) else none) = some b
  rw [if_pos e, h3]
theorem kit_one {K : PySem.W.Frag} {D : Addr} {c : Value} {b : Bool} (n : ((Value.ref D) == c) = true → b = true) (h : PySem.W.kitCls K (.ref D) c = some b) : PySem.W.kitOne K (.ref D) c = some b := by
  unfold PySem.W.kitOne
  by_cases z : ((Value.ref D) == c) = true
  · rw [if_pos z, n z]
  · rw [if_neg z, h]
theorem kit_same {K : PySem.W.Frag} {D : Addr} : PySem.W.kitOne K (.ref D) (.ref D) = some true := by
  unfold PySem.W.kitOne
  rw [if_pos (beq_self_eq_true _)]
theorem self_sub {K : PySem.W.Frag} {C : Addr} {bmB : List Value} {n : String} (x : PySem.W.excIn K C bmB n = true) : PySem.W.subIn K (.ref C) (.ref C) ≠ some false := by
  unfold PySem.W.excIn at x
  split at x
  · rename_i dd cd sl ho
    split at x
    · rename_i C' bm _ _ _ _ n' _ hm hsl
      simp only [Bool.and_eq_true, beq_iff_eq] at x
      have e : C' = C := x.1.1.1.1.1
      show PySem.W.mroIn K C (.ref C) ≠ some false
      unfold PySem.W.mroIn PySem.W.clsIn
      rw [ho]
      show (if cd.mro.isEmpty = true then none else some (cd.mro.contains (.ref C))) ≠ some false
      rw [hm, e, List.contains_cons, beq_self_eq_true, Bool.true_or]
      intro z
      cases z
    · cases x
  · cases x
theorem self_subT {K : PySem.W.Frag} {C : Addr} {bmB : List Value} {n : String} (x : PySem.W.excIn K C bmB n = true) : PySem.W.subIn K (.ref C) (.ref C) = some true := by
  unfold PySem.W.excIn at x
  split at x
  · rename_i dd cd sl ho
    split at x
    · rename_i C' bm _ _ _ _ n' _ hm hsl
      simp only [Bool.and_eq_true, beq_iff_eq] at x
      have e : C' = C := x.1.1.1.1.1
      show PySem.W.mroIn K C (.ref C) = some true
      unfold PySem.W.mroIn PySem.W.clsIn
      rw [ho]
      show (if cd.mro.isEmpty = true then none else some (cd.mro.contains (.ref C))) = some true
      rw [hm, e, List.contains_cons, beq_self_eq_true, Bool.true_or]
      rfl
    · cases x
  · cases x
def errAt (e0 e1 e2 e3 e4 e5 : Addr) : Nat → Addr
  | 0 => e0
  | 1 => e1
  | 2 => e2
  | 3 => e3
  | 4 => e4
  | _ => e5
def errOf {K : PySem.W.Frag} {mg : Str → Option Value} {M : Addr} {c : Nat → Addr} (gM : mg "MarkError" = some (.ref M)) (g0 : mg "NoPile" = some (.ref (c 0))) (g1 : mg "NoRow" = some (.ref (c 1))) (g2 : mg "NoMove" = some (.ref (c 2)))
    (g3 : mg "TooGreat" = some (.ref (c 3))) (g4 : mg "Below" = some (.ref (c 4))) (g5 : mg "NoText" = some (.ref (c 5))) (iM : PySem.W.isClsIn K M = true) (tM : PySem.W.typeIn K (.ref M) = some (.type "type"))
    (bM : PySem.W.subIn K (.ref M) (.type "BaseException") = some true) (o : ∀ i, i < 6 → ErrOne K (c i) M) (s : ∀ i j, i < 6 → j < 6 → i ≠ j → PySem.W.subIn K (.ref (c i)) (.ref (c j)) = some false) : ErrTxt K mg where
  M := M
  c := c
  gM := gM
  g0 := g0
  g1 := g1
  g2 := g2
  g3 := g3
  g4 := g4
  g5 := g5
  k := fun i h => (o i h).k
  x := fun i h => (o i h).x
  e := fun i h => (o i h).e
  t := fun i h => (o i h).t
  q := fun i h => (o i h).q
  kit := fun i j hi hj => by
    by_cases z : i = j
    · subst z
      rw [decide_eq_true rfl]
      exact kit_same
    · rw [decide_eq_false z]
      have k := s i j hi hj z
      refine kit_one (fun y => ?_) (kit_ref (o j hj).ic (o j hj).t k)
      have y2 : Value.ref (c i) = Value.ref (c j) := beq_iff_eq.mp y
      rw [← y2] at k
      exact absurd k (self_sub (o i hi).x)
  kitV := fun i hi => kit_one (fun _ => rfl) (by
    show (if PySem.W.kitMeta "ValueError" = true then PySem.W.subIn K (.ref (c i)) (.type "ValueError") else none) = some true
    rw [if_pos (by decide +kernel), (o i hi).v])
  exm := fun i hi => by
    unfold PySem.W.exmOne
    rw [if_pos (by rw [bM] <;> rfl)]
    exact kit_ref iM tM (o i hi).m
  exo := fun i j hi hj => by
    unfold PySem.W.exmOne
    rw [if_pos (by rw [(o j hj).e] <;> rfl)]
    refine kit_ref (o j hj).ic (o j hj).t ?_
    by_cases z : i = j
    · subst z
      rw [decide_eq_true rfl]
      exact self_subT (o i hi).x
    · rw [decide_eq_false z]
      exact s i j hi hj z
end Lm

set_option maxHeartbeats 2000000
/-! What moves.py means, in plain numbers. A move: (true, k) a join at k, (false, k) a part at k. -/
namespace Lm
open PySem PySem.Spec PyProof.Rows L2 Evl
def mvS (b : Bool) : Str := if b = true then "join" else "part"
def mvD (m : Bool × Int) : PyData := .tuple [.str (mvS m.1), .int m.2]
def goA (m : Bool × Int) : Int := m.2
def goB (m : Bool × Int) : Int := if m.1 = true then m.2 + 1 else m.2
def comeI (m : Bool × Int) : List Int := if m.1 = true then [m.2 + 2] else if m.2 = 0 then [1] else if m.2 = 1 then [0, 2] else [m.2 - 2, m.2 + 1]
def mwI (n : Int) : Int := if n = 0 then 3 else if n = 1 then 5 else 2 * n + 2
def weighI (ns : List Int) : Int := (ns.map mwI).sum
def dblI (ns : List Int) : List Int := ((List.range 100).filter fun k : Nat => decide (1 < ns.count (k : Int))).map fun k : Nat => (k : Int)
def joinI (ns : List Int) : List Int := ((List.range 99).filter fun k : Nat => decide ((k : Int) ∈ ns) && decide ((k : Int) + 1 ∈ ns)).map fun k : Nat => (k : Int)
def movesI (ns : List Int) : List (Bool × Int) := (joinI ns).map (fun k => (true, k)) ++ (dblI ns).map fun k => (false, k)
def leftI (ns : List Int) (m : Bool × Int) : List Int := (ns.erase (goA m)).erase (goB m)
def afterI (ns : List Int) (m : Bool × Int) : List Int := srt (leftI ns m ++ comeI m)
theorem range_strict (n : Nat) (f : Nat → Bool) : (((List.range n).filter f).map fun k : Nat => (k : Int)).Pairwise (· < ·) := by
  rw [List.pairwise_map]
  exact (List.pairwise_lt_range.filter f).imp fun h => by omega
theorem mem_dbl {ns : List Int} (h : ∀ n ∈ ns, 0 ≤ n ∧ n ≤ 99) (k : Int) : k ∈ dblI ns ↔ 1 < ns.count k := by
  unfold dblI
  rw [List.mem_map]
  constructor
  · rintro ⟨j, hj, rfl⟩
    exact of_decide_eq_true (List.mem_filter.mp hj).2
  · intro hk
    have hm : k ∈ ns := List.count_pos_iff.mp (by omega)
    have := h k hm
    have e : ((k.toNat : Nat) : Int) = k := by omega
    exact ⟨k.toNat, List.mem_filter.mpr ⟨List.mem_range.mpr (by omega), by rw [e]; exact decide_eq_true hk⟩, e⟩
theorem mem_join {ns : List Int} (h : ∀ n ∈ ns, 0 ≤ n ∧ n ≤ 99) (k : Int) : k ∈ joinI ns ↔ k ∈ ns ∧ k + 1 ∈ ns := by
  unfold joinI
  rw [List.mem_map]
  constructor
  · rintro ⟨j, hj, rfl⟩
    have := (List.mem_filter.mp hj).2
    rw [Bool.and_eq_true] at this
    exact ⟨of_decide_eq_true this.1, of_decide_eq_true this.2⟩
  · rintro ⟨h1, h2⟩
    have a := h k h1
    have b := h _ h2
    have e : ((k.toNat : Nat) : Int) = k := by omega
    refine ⟨k.toNat, List.mem_filter.mpr ⟨List.mem_range.mpr (by omega), ?_⟩, e⟩
    rw [e, decide_eq_true h1, decide_eq_true h2]
    rfl
theorem nx_cons (a b : Int) (r : List Int) : nx (a :: b :: r) = (a, b) :: nx (b :: r) := rfl
/-- a pair of neighbours with what stands between -/
theorem nx_mem : ∀ {ns : List Int} {p : Int × Int}, p ∈ nx ns → p.1 ∈ ns ∧ p.2 ∈ ns
  | [], p, h => by cases h
  | [a], p, h => by cases h
  | a :: b :: r, p, h => by
    rw [nx_cons, List.mem_cons] at h
    rcases h with rfl | h
    · exact ⟨List.mem_cons_self, List.mem_cons_of_mem _ List.mem_cons_self⟩
    · have := nx_mem h
      exact ⟨List.mem_cons_of_mem _ this.1, List.mem_cons_of_mem _ this.2⟩
theorem nx_join : ∀ {ns : List Int}, ns.Pairwise (· ≤ ·) → ∀ k : Int, (∃ p, p ∈ nx ns ∧ p.2 = p.1 + 1 ∧ p.1 = k) ↔ k ∈ ns ∧ k + 1 ∈ ns
  | [], _, k => by simp [nx]
  | [a], _, k => by
    constructor
    · rintro ⟨p, h, _⟩
      cases h
    · rintro ⟨h1, h2⟩
      simp at h1 h2
      omega
  | a :: b :: r, h, k => by
    have ih := nx_join (List.pairwise_cons.mp h).2 k
    have ha := (List.pairwise_cons.mp h).1
    have hb := (List.pairwise_cons.mp (List.pairwise_cons.mp h).2).1
    rw [nx_cons]
    constructor
    · rintro ⟨p, hp, e1, e2⟩
      rcases List.mem_cons.mp hp with rfl | hp
      · exact ⟨by simp at e2; simp [e2], by simp at e1 e2; simp [e1, e2]⟩
      · have := ih.mp ⟨p, hp, e1, e2⟩
        exact ⟨List.mem_cons_of_mem _ this.1, List.mem_cons_of_mem _ this.2⟩
    · rintro ⟨h1, h2⟩
      by_cases hk : k ∈ b :: r ∧ k + 1 ∈ b :: r
      · obtain ⟨p, hp, e⟩ := ih.mpr hk
        exact ⟨p, List.mem_cons_of_mem _ hp, e⟩
      · have ka : k = a := by
          rcases List.mem_cons.mp h1 with z | z
          · exact z
          · rcases List.mem_cons.mp h2 with y | y
            · have := ha k z
              omega
            · exact absurd ⟨z, y⟩ hk
        subst ka
        have h3 : k + 1 ∈ b :: r := by
          rcases List.mem_cons.mp h2 with y | y
          · omega
          · exact y
        have hn : k ∉ b :: r := fun z => hk ⟨z, h3⟩
        have hb2 : b = k + 1 := by
          have h4 := ha b List.mem_cons_self
          have h5 : b ≠ k := fun z => hn (by rw [z]; exact List.mem_cons_self)
          rcases List.mem_cons.mp h3 with y | y
          · exact y.symm
          · have := hb _ y
            omega
        exact ⟨(k, b), List.mem_cons_self, hb2, rfl⟩
theorem nx_dbl : ∀ {ns : List Int}, ns.Pairwise (· ≤ ·) → ∀ k : Int, (∃ p, p ∈ nx ns ∧ p.1 = p.2 ∧ p.1 = k) ↔ 1 < ns.count k
  | [], _, k => by simp [nx]
  | [a], _, k => by
    constructor
    · rintro ⟨p, h, _⟩
      cases h
    · intro h
      have := List.count_le_length (l := [a]) (a := k)
      simp at this
      omega
  | a :: b :: r, h, k => by
    have ih := nx_dbl (List.pairwise_cons.mp h).2 k
    have ha := (List.pairwise_cons.mp h).1
    have hb := (List.pairwise_cons.mp (List.pairwise_cons.mp h).2).1
    rw [nx_cons]
    have step : (a :: b :: r).count k = (b :: r).count k + if a = k then 1 else 0 := by
      rw [List.count_cons]
      congr 1
      by_cases z : a = k
      · rw [if_pos z, if_pos (by rw [z]; exact beq_self_eq_true k)]
      · rw [if_neg z, if_neg (by simpa using z)]
    rw [step]
    constructor
    · rintro ⟨p, hp, e1, e2⟩
      rcases List.mem_cons.mp hp with rfl | hp
      · simp only at e1 e2
        subst e2
        have : 0 < (b :: r).count a := List.count_pos_iff.mpr (by rw [e1]; exact List.mem_cons_self)
        rw [if_pos rfl]
        omega
      · have := ih.mp ⟨p, hp, e1, e2⟩
        omega
    · intro hc
      by_cases hk : 1 < (b :: r).count k
      · obtain ⟨p, hp, e⟩ := ih.mpr hk
        exact ⟨p, List.mem_cons_of_mem _ hp, e⟩
      · by_cases z : a = k
        · subst z
          rw [if_pos rfl] at hc
          have hm : a ∈ b :: r := List.count_pos_iff.mp (by omega)
          have hba : b = a := by
            have h4 := ha b List.mem_cons_self
            rcases List.mem_cons.mp hm with y | y
            · exact y.symm
            · have := hb _ y
              omega
          exact ⟨(a, b), List.mem_cons_self, hba.symm, rfl⟩
        · rw [if_neg z] at hc
          omega
theorem nx_lows : ∀ {ns : List Int}, ns.Pairwise (· ≤ ·) → (((nx ns).filter fun p => decide (p.2 = p.1 + 1)).map Prod.fst).Pairwise (· < ·)
  | [], _ => .nil
  | [_], _ => .nil
  | a :: b :: r, h => by
    have ih := nx_lows (List.pairwise_cons.mp h).2
    rw [nx_cons]
    by_cases z : b = a + 1
    · rw [List.filter_cons, if_pos (by simpa using z), List.map_cons]
      refine List.pairwise_cons.mpr ⟨fun x hx => ?_, ih⟩
      obtain ⟨p, hp, rfl⟩ := List.mem_map.mp hx
      have hm := (nx_mem (List.mem_filter.mp hp).1).1
      have hb := (List.pairwise_cons.mp (List.pairwise_cons.mp h).2).1
      show a < p.1
      rcases List.mem_cons.mp hm with y | y
      · omega
      · have := hb _ y
        omega
    · rw [List.filter_cons, if_neg (by simpa using z)]
      exact ih
theorem joins_nx {ns : List Int} (h : ns.Pairwise (· ≤ ·)) (hi : ∀ n ∈ ns, 0 ≤ n ∧ n ≤ 99) : ((nx ns).filter fun p => decide (p.2 = p.1 + 1)).map Prod.fst = joinI ns :=
  strict_one (nx_lows h) (range_strict 99 _) fun k => by
    rw [mem_join hi, ← nx_join h, List.mem_map]
    constructor
    · rintro ⟨p, hp, e⟩
      exact ⟨p, (List.mem_filter.mp hp).1, by simpa using (List.mem_filter.mp hp).2, e⟩
    · rintro ⟨p, hp, e1, e2⟩
      exact ⟨p, List.mem_filter.mpr ⟨hp, by simpa using e1⟩, e2⟩
theorem pile_rise {ns : List Int} (h : pileI ns = true) : ns.Pairwise (· ≤ ·) := by
  unfold pileI at h
  rw [Bool.and_eq_true, Bool.and_eq_true] at h
  exact nx_rise h.2.2
theorem mem_moves {ns : List Int} (hi : ∀ n ∈ ns, 0 ≤ n ∧ n ≤ 99) (m : Bool × Int) : m ∈ movesI ns ↔ goA m ∈ ns ∧ goB m ∈ ns.erase (goA m) := by
  obtain ⟨b, k⟩ := m
  unfold movesI
  rw [List.mem_append, List.mem_map, List.mem_map]
  cases b with
  | true =>
    show _ ↔ k ∈ ns ∧ k + 1 ∈ ns.erase k
    rw [List.mem_erase_of_ne (by omega : k + 1 ≠ k), ← mem_join hi]
    constructor
    · rintro (⟨j, hj, e⟩ | ⟨j, hj, e⟩)
      · cases e
        exact hj
      · cases e
    · intro h
      exact .inl ⟨k, h, rfl⟩
  | false =>
    show _ ↔ k ∈ ns ∧ k ∈ ns.erase k
    have e : (k ∈ ns ∧ k ∈ ns.erase k) ↔ 1 < ns.count k := by
      rw [← List.count_pos_iff, ← List.count_pos_iff, List.count_erase_self]
      omega
    rw [e, ← mem_dbl hi]
    constructor
    · rintro (⟨j, hj, e⟩ | ⟨j, hj, e⟩)
      · cases e
      · cases e
        exact hj
    · intro h
      exact .inr ⟨k, h, rfl⟩
end Lm

set_option maxHeartbeats 2000000
/-! More rules over plain data: unpacking, in, max, count, a list of one's own. -/
namespace Lm
open PySem PySem.Spec PyProof.Rows L2 Evl
theorem room65 {k : Nat} {A : Around} (hr : Room k A) : A.units + 65 < cLine := by
  have := hr.un
  omega
section
variable {K : PySem.W.Frag} {σ : L2.St} {G G0 H H0 : Hp} {ta tb te : TE} {D : Ends} {tz : TS} {a b d : PyData} {ds : List PyData} {ns : List Int}
/-- x, y = a pair -/
theorem d_unp {j l : Nat} (P : Part G0 H0 G H) (h : EvD te σ G (.tuple [a, b])) (k : ∀ x y G' H', Part G0 H0 G' H' → Ex G G' → Ex H H' → Rp G' x a → Rp G' y b → tz D ((σ.set j (some x)).set l (some y)) H') :
    tSeq (tAsg te (gTup K 2 (gCons (gName j) (gCons (gName l) gNil)))) tz D σ H := h H P.sub _ fun v G' H' p r => by
  cases r with
  | @tup T xs _ et c =>
    cases c with
    | cons r1 c =>
      cases c with
      | cons r2 c =>
        cases c
        exact ⟨T, _, rfl, .inl (rd_up p.sub et), rfl, _, _, rfl, _, _, rfl, rfl, k _ _ G' H' (P.trans p) p.ext p.old r1 r2⟩
/-- .. of a list -/
theorem d_unpL {j l : Nat} (P : Part G0 H0 G H) (h : EvD te σ G (.list [a, b])) (k : ∀ x y G' H', Part G0 H0 G' H' → Ex G G' → Ex H H' → Rp G' x a → Rp G' y b → tz D ((σ.set j (some x)).set l (some y)) H') :
    tSeq (tAsg te (gUnl K 2 (gCons (gName j) (gCons (gName l) gNil)))) tz D σ H := h H P.sub _ fun v G' H' p r => by
  cases r with
  | @lst T xs _ et c =>
    cases c with
    | cons r1 c =>
      cases c with
      | cons r2 c =>
        cases c
        exact ⟨T, _, rfl, .inl (.inl (p.sub _ _ et)), rfl, _, _, rfl, _, _, rfl, rfl, k _ _ G' H' (P.trans p) p.ext p.old r1 r2⟩
theorem inV_strs (s : Str) (ws : List Str) : inV (.str s) (ws.map V.str) = decide (s ∈ ws) := by
  unfold inV
  rw [List.any_map, Bool.eq_iff_iff, List.any_eq_true, decide_eq_true_eq]
  constructor
  · rintro ⟨x, hx, e⟩
    have e2 : (x == s) = true := e
    rw [← beq_iff_eq.mp e2]
    exact hx
  · intro h
    exact ⟨s, h, (beq_self_eq_true s : (s == s) = true)⟩
theorem inV_ints (n : Int) (ns : List Int) : inV (.int n) (ns.map V.int) = decide (n ∈ ns) := by
  unfold inV
  rw [List.any_map, Bool.eq_iff_iff, List.any_eq_true, decide_eq_true_eq]
  constructor
  · rintro ⟨x, hx, e⟩
    have e2 : (x == n) = true := e
    rw [← beq_iff_eq.mp e2]
    exact hx
  · intro h
    exact ⟨n, h, (beq_self_eq_true n : (n == n) = true)⟩
theorem RpA.strsV : ∀ {ws : List Str} {xs : List V}, RpA G xs (ws.map .str) → xs = ws.map V.str
  | [], _, .nil => rfl
  | w :: ws, _, .cons a b => by
    cases a
    rw [RpA.strsV b]
    rfl
theorem flat_strV (ws : List Str) : (ws.map V.str).all flatV = true := by
  rw [List.all_map]
  exact List.all_eq_true.mpr fun _ _ => rfl
theorem flat_intV (ns : List Int) : (ns.map V.int).all flatV = true := by
  rw [List.all_map]
  exact List.all_eq_true.mpr fun _ _ => rfl
theorem ed_inStrT {s : Str} {ws : List Str} (h : EvD ta σ G (.str s)) (k : EvD tb σ G (.tuple (ws.map .str))) : EvD (tOp (rIn K false) ta tb) σ G (.bool (decide (s ∈ ws))) := fun H x Q q =>
  h H x _ fun v G1 H1 p r => (k.mono p.ext) H1 p.sub _ fun w G2 H2 p2 r2 => by
    cases r
    cases r2 with
    | tup a b =>
      have e := RpA.strsV b
      subst e
      refine ⟨_, _, rfl, .inr (.inl (rd_up p2.sub a)), rfl, flat_strV ws, ?_⟩
      rw [inV_strs]
      exact q _ G2 H2 (p.trans p2) (.bl _)
theorem ed_inIntT {n : Int} (h : EvD ta σ G (.int n)) (k : EvD tb σ G (.tuple (ns.map .int))) : EvD (tOp (rIn K false) ta tb) σ G (.bool (decide (n ∈ ns))) := fun H x Q q =>
  h H x _ fun v G1 H1 p r => (k.mono p.ext) H1 p.sub _ fun w G2 H2 p2 r2 => by
    cases r
    cases r2 with
    | tup a b =>
      have e := b.ints
      subst e
      refine ⟨_, _, rfl, .inr (.inl (rd_up p2.sub a)), rfl, flat_intV ns, ?_⟩
      rw [inV_ints]
      exact q _ G2 H2 (p.trans p2) (.bl _)
theorem ed_notInD (h : EvD ta σ G d) (k : EvD tb σ G (.list ds)) (s1 : SeqAt.shaped d = true) (s2 : SeqAt.shaped (.list ds) = true) : EvD (tOp (rNotInD K) ta tb) σ G (.bool (!ds.any fun z => PyData.eqv z d)) := fun H x Q q =>
  h H x _ fun v G1 H1 p r => (k.mono p.ext) H1 p.sub _ fun w G2 H2 p2 r2 =>
    ⟨d, ds, Rp.dp p2.sub d v (SeqAt.canLay_of_shaped s1) (r.up p2.ext), Rp.dp p2.sub _ w (SeqAt.canLay_of_shaped s2) r2, s1, s2, q _ G2 H2 (p.trans p2) (.bl _)⟩
theorem ed_max {m : Int} (h : EvD ta σ G (.list (ns.map .int))) (hn : 0 < ns.length) (hm : ∀ k, k ∈ ns → (∀ y, y ∈ ns → y ≤ k) → k = m) : EvD (tCB (rMax K) (tCons ta tNil)) σ G (.int m) := fun H x Q q =>
  h H x _ fun v G1 H1 p r => by
    cases r with
    | lst a b =>
      have e := b.ints
      subst e
      refine ⟨_, ns, rfl, .inl (.inl (p.sub _ _ a)), hn, fun k k1 k2 => ?_⟩
      rw [hm k k1 k2]
      exact q _ G1 H1 p (.int _)
theorem ed_maxT {m : Int} (h : EvD ta σ G (.tuple (ns.map .int))) (hn : 0 < ns.length) (hm : ∀ k, k ∈ ns → (∀ y, y ∈ ns → y ≤ k) → k = m) : EvD (tCB (LmCnt.rMaxT K) (tCons ta tNil)) σ G (.int m) := fun H x Q q =>
  h H x _ fun v G1 H1 p r => by
    cases r with
    | tup a b =>
      have e := b.ints
      subst e
      refine ⟨_, ns, rfl, .inl (rd_up p.sub a), hn, fun k k1 k2 => ?_⟩
      rw [hm k k1 k2]
      exact q _ G1 H1 p (.int _)
end
end Lm

set_option maxHeartbeats 2000000
/-! Tuples of which the whole object is known: their methods may be called. -/
namespace LmFrz
open PySem PySem.Spec PyProof.Rows L2 LmCnt
section
variable {X : Cx}
abbrev newT (us : List Value) : Obj := { cls := .type "tuple", data := .seq us.toArray }
/-- (e, ..), the new object kept -/
def tTupF (t : TA) : TE := fun σ H Q => t σ H fun vs H1 => vs.length ≤ sizeLine ∧ ∀ a o, H1 a = none → o.dict = none → Q (.ref a) (upd H1 a (.frz o (.tup vs)))
theorem pe_tupF {es : List Expr} {t : TA} {x1 : Nat} {pos : Pos} (h : PA X es t) : PE X (.Tuple es x1 pos) (tTupF t) := by
  constructor
  intro pins s σ H Q I hq
  refine wpAny_Tuple_spliced (thn (h.run pos pins s σ H _ I hq) ?_)
  rintro us s1 ⟨xs, H1, I1, rv, hz, q⟩
  have lu : us.length ≤ sizeLine := by rw [← rv.length]; exact hz
  refine ⟨lu, ?_⟩
  refine ⟨.ref s1.heap.objs.size, upd H1 s1.heap.objs.size (.frz (newT us) (.tup xs)), I1.laid (t' := s1.toks) (fun b u e => Heap.get?_push_of_some _ e) (Nat.le_refl _) ?_, rfl, q _ _ (I1.hok.fresh (Nat.le_refl _)) rfl⟩
  exact ⟨Heap.get?_push_size _ rfl, hz, us, rv, ⟨_, Heap.get?_push_size _ rfl, rfl, _, rfl⟩⟩
/-- tuple(a list), the new object kept -/
def kTupF (K : PySem.W.Frag) (x : V) (H : Hp) (Q : VK) : Prop := ∃ p xs, x = .ref p ∧ SqL K H p xs ∧ ∀ q o, H q = none → o.dict = none → Q (.ref q) (upd H q (.frz o (.tup xs)))
theorem pe_tupleOfF {a : Expr} {ta : TE} {p pos : Pos} (hg : Gl X "tuple") (hm : X.mg "tuple" = none) (ha : PE X a ta) (na : starEach [a] X.env = (false, eval a X.env) :: starEach [] X.env := by rfl) :
    PE X (.Call (.Name "tuple" p) [a] [] pos) (tThen ta (kTupF X.K)) := by
  constructor
  intro pins s σ H Q I h
  refine Call_ (ld_blt I hg hm boot_tuple (PyProof.Rows.callWith_type1 (one_arg ha I h (fun v s2 x H2 I2 r q => ?_) na) na))
  obtain ⟨l, xs, rfl, hs, q⟩ := q
  cases r
  obtain ⟨us, rv, pl, hz⟩ := I2.list hs
  refine call_tuple_list pl.isList (fun h' hk => ?_) (by rw [List.size_toArray, ← rv.length]; exact hz)
  have J : Inv X pins σ H2 { s2 with heap := h' } := I2.kept (t' := s2.toks) hk
  exact ⟨.ref h'.objs.size, upd H2 h'.objs.size (.frz (newT us) (.tup xs)), J.laid (t' := s2.toks) (fun b o e => Heap.get?_push_of_some _ e) (Nat.le_refl _) ⟨Heap.get?_push_size _ rfl, hz, us, rv, ⟨_, Heap.get?_push_size _ rfl, rfl, _, rfl⟩⟩, rfl, q _ _ (J.hok.fresh (Nat.le_refl _)) rfl⟩
/-- t.count(k) of such a tuple -/
def tCntF (K : PySem.W.Frag) (to : TE) (t : TA) : TE := fun σ H Q => to σ H fun x H1 => (∃ p o xs, x = .ref p ∧ H1 p = some (.frz o (.tup xs)) ∧ o.dict = none) ∧ t σ H1 fun vs H2 => rCntT K x vs H2 Q
theorem pe_tcountF {o e : Expr} {to : TE} {t : TA} {apos cpos : Pos} (ho : PE X o to) (ha : PA X [e] t)
    (hb : attributeBase o "count" X.env (eval o X.env) = eval o X.env := by rfl)
    (hf : ((backTo cpos (starEach [e] X.env)).all (fun x => !x.1) && (backToKw cpos (keywordEach [] X.env)).all (fun x => x.1.isSome) && decide ([e].length + ([] : List Keyword).length + (if ([] : List Keyword).isEmpty then 0 else 1) < 30)) = true := by rfl)
    (hl : (apos.endLine == cpos.line) = true := by rfl) (hs : starEach [e] X.env = (false, eval e X.env) :: starEach [] X.env := by rfl) (hp : (backTo cpos (starEach [] X.env)).any (·.1) = false := by rfl) :
    PE X (.Call (.Attribute o "count" apos) [e] [] cpos) (tCntF X.K to t) := by
  constructor
  intro pins s σ H Q I h
  refine wpAny_Call_method_late hb hf hl rfl (thn (ho.run pins s σ H _ I h) ?_)
  rintro v s1 ⟨x, H1, I1, r1, ⟨p, ob, xs, rfl, hx, hd⟩, q1⟩
  cases r1
  obtain ⟨get, _, its, rv, IT⟩ := (show ObjOk X.prog X.w H1 s1.heap p (.frz ob (.tup xs)) from I1.hok p _ hx)
  obtain ⟨o2, g2, c2, _⟩ := IT
  have e2 : o2 = ob := by rw [get] at g2; exact (Option.some.inj g2).symm
  subst e2
  refine ⟨"tuple", "tuple.count", PySem.F.plainAttrs_tuple, PySem.F.slot_tuple_count, PySem.F.type_tuple_count, ⟨o2, get, c2⟩, fun a z => ?_, ?_⟩
  · cases z
    exact ⟨o2, get, hd⟩
  · have run := ha.run cpos pins s1 σ H1 _ I1 q1
    rw [hs] at run ⊢
    exact Calls.callWith_builtin (by show (false || (backTo cpos (starEach [] X.env)).any (·.1)) = false; rw [hp] <;> rfl) (Calls.evalArgs_plain (thn run fun us s2 ⟨vs, H2, I2, r2, q2⟩ => mt_tcount pins s2 σ H2 (.ref p) vs (.ref p) us Q I2 rfl r2 q2))
end
end LmFrz
namespace Lm
open PySem PySem.Spec PyProof.Rows L2 Evl LmFrz
section
variable {K : PySem.W.Frag} {σ : L2.St} {G : Hp} {ta tb te : TE} {tr : TA} {d : PyData} {ns : List Int}
theorem frz_new {G' H' : Hp} {a : Addr} {o : Obj} {vs : List V} (r : RpA G' vs (ns.map .int)) (hd : o.dict = none) : Rp (upd G' a (.frz o (.tup vs))) (.ref a) (frzD ns) := by
  have e := r.ints
  subst e
  exact .frz upd_same hd rfl
theorem ed_tupF (h : EdA tr σ G (ns.map .int)) (hl : ns.length ≤ 100000) : EvD (tTupF tr) σ G (frzD ns) := fun H x Q q =>
  h H x _ fun vs G1 H1 p r => ⟨by rw [r.len, List.length_map]; exact sz_of hl, fun a o n hd => q _ _ _ (p.add n) (frz_new (H' := H1) r hd)⟩
theorem ed_tupleLF (h : EvD ta σ G (.list (ns.map .int))) : EvD (tThen ta (kTupF K)) σ G (frzD ns) := fun H x Q q =>
  h H x _ fun v G1 H1 p r => by
    cases r with
    | lst a b => exact ⟨_, _, rfl, .inl (.inl (p.sub _ _ a)), fun l o n hd => q _ _ _ (p.add n) (frz_new (H' := H1) b hd)⟩
theorem ed_thaw (h : EvD ta σ G (frzD ns)) : EvD ta σ G (.tuple (ns.map .int)) := fun H x Q q => h H x Q fun v G' H' p r => q v G' H' p r.thaw
theorem ed_tcountF {n : Int} (h : EvD ta σ G (frzD ns)) (k : EvD tb σ G (.int n)) : EvD (tCntF K ta (tCons tb tNil)) σ G (.int (ns.count n : Nat)) := fun H x Q q =>
  h H x _ fun v G1 H1 p r => by
    cases r with
    | @frz a o ms _ x2 y z =>
      have e : ms = ns := by
        have := congrArg (List.map toI) z
        rw [toI_map, toI_map] at this
        exact this.symm
      subst e
      refine ⟨⟨_, _, _, rfl, p.sub _ _ x2, y⟩, (k.mono p.ext) H1 p.sub _ fun w G2 H2 p2 r2 => ?_⟩
      cases r2
      exact ⟨a, ms, n, rfl, rfl, .inl (.inr ⟨o, p2.sub _ _ (p2.ext _ _ x2)⟩), q _ G2 H2 (p.trans p2) (.int _)⟩
end
def rLPileF (K : PySem.W.Frag) : Hp → List PyData → Out → Prop := fun G ds o => ∃ (a : Addr) (ns : List Int) (f m : Nat), ds = [opq a, .int (f : Nat), .int (m : Nat)] ∧ SqL K G a (ns.map V.int) ∧ ns.length ≤ 100 ∧ f ≤ 1000 ∧ m ≤ 1000 ∧ o = .val (frzD (pileS ns f m))
end Lm

set_option maxHeartbeats 2000000
/-! What the defs of moves.py promise. -/
namespace Lm
open PySem PySem.Spec PyProof.Rows L2 Evl
def rMW : List PyData → Out → Prop := fun ds o => ∃ n : Int, ds = [.int n] ∧ o = .val (.int (mwI n))
def weighD : PyData → Int
  | .tuple ds => weighI (ds.map toI)
  | _ => 0
def rWeigh (C : Addr) : List PyData → Out → Prop := fun ds o => ∃ d, ds = [d] ∧ plainD d = true ∧ o = if isPileD d = true then .val (.int (weighD d)) else .err C
def rGoing : List PyData → Out → Prop := fun ds o => ∃ m, ds = [mvD m] ∧ o = .val (.list ([goA m, goB m].map .int))
def rComing : List PyData → Out → Prop := fun ds o => ∃ m, ds = [mvD m] ∧ o = .val (.list ((comeI m).map .int))
def isMvD : PyData → Bool
  | .tuple [.str s, p] => decide (s ∈ (["join", "part"] : List Str)) && isPlaceD p
  | _ => false
def rIsMove : List PyData → Out → Prop := fun ds o => ∃ d, ds = [d] ∧ plainD d = true ∧ o = .val (.bool (isMvD d))
/-- a pile's moves, or NoPile -/
def rMoves (C : Addr) : List PyData → Out → Prop := fun ds o => (∃ d, ds = [d] ∧ plainD d = true ∧ isPileD d = false ∧ o = .err C) ∨
  ∃ ns : List Int, ds = [.tuple (ns.map .int)] ∧ pileI ns = true ∧ ns.length ≤ 126 ∧ o = .val (.list ((movesI ns).map mvD))
theorem eqv_kind (b : Bool) : PyData.eqv (.str (mvS b)) (.str "join") = b := by cases b <;> decide +kernel
theorem shaped_kind (b : Bool) : SeqAt.shaped (.str (mvS b)) = true := by cases b <;> decide +kernel
theorem mv_is {m : Bool × Int} (h : 0 ≤ m.2 ∧ m.2 ≤ 99) : isMvD (mvD m) = true := by
  obtain ⟨b, k⟩ := m
  show (decide (mvS b ∈ (["join", "part"] : List Str)) && (decide (0 ≤ k) && decide (k ≤ 99))) = true
  rw [decide_eq_true h.1, decide_eq_true h.2]
  cases b <;> decide +kernel
theorem is_mv {d : PyData} (h : isMvD d = true) : ∃ m : Bool × Int, d = mvD m ∧ 0 ≤ m.2 ∧ m.2 ≤ 99 := by
  unfold isMvD at h
  split at h
  · rename_i s p
    rw [Bool.and_eq_true] at h
    cases p with
    | int k =>
      have hp := Bool.and_eq_true_iff.mp (show (decide (0 ≤ k) && decide (k ≤ 99)) = true from h.2)
      have hs := of_decide_eq_true h.1
      simp only [List.mem_cons, List.not_mem_nil, or_false] at hs
      rcases hs with rfl | rfl
      · exact ⟨(true, k), rfl, of_decide_eq_true hp.1, of_decide_eq_true hp.2⟩
      · exact ⟨(false, k), rfl, of_decide_eq_true hp.1, of_decide_eq_true hp.2⟩
    | _ => cases h.2
  · cases h
end Lm

set_option maxHeartbeats 2000000
/-! A list of one's own that changes; a list that a def hands out anew. -/
namespace Lm
open PySem PySem.Spec PyProof.Rows L2 Evl
section
variable {G G0 G1 G' H H0 H' : Hp} {l : Addr} {o o' : HO}
/-- what the part doesn't know may change -/
theorem Part.mut (P : Part G0 H0 G H) (hg : G l = none) (h0 : H0 l = none) : Part G0 H0 G (upd H l o) where
  ext := P.ext
  sub := fun a u h => by
    rw [upd_ne (ne_of_none h hg)]
    exact P.sub a u h
  old := fun a u h => by
    rw [upd_ne (ne_of_none h h0)]
    exact P.old a u h
  new := P.new
/-- from now on the part knows it too -/
theorem Part.take (P : Part G0 H0 G H) (hg : G l = none) (h0 : H0 l = none) (h : H l = some o) : Part G0 H0 (upd G l o) H where
  ext := P.ext.trans (Ex.new hg)
  sub := fun a u k => by
    by_cases e : a = l
    · subst e
      rw [upd_same] at k
      rw [← k]
      exact h
    · rw [upd_ne e] at k
      exact P.sub a u k
  old := P.old
  new := fun a u k n => by
    by_cases e : a = l
    · subst e
      exact h0
    · rw [upd_ne e] at k
      exact P.new a u k n
/-- what was there is not in the part's news -/
theorem Part.off (P : Part G H G' H') (hg : G l = none) (h : H l = some o) : G' l = none := by
  cases z : G' l with
  | none => rfl
  | some u =>
    have k := P.new l u z hg
    rw [h] at k
    cases k
end
theorem erase_one : ∀ {ns : List Int} {k : Int}, k ∈ ns → ∃ j, ns[j]? = some k ∧ (∀ m : Nat, m < j → ns[m]? ≠ some k) ∧ ns.eraseIdx j = ns.erase k
  | [], _, h => by cases h
  | n :: ns, k, h => by
    by_cases z : n = k
    · subst z
      exact ⟨0, rfl, fun m hm => by omega, by simp⟩
    · obtain ⟨j, h1, h2, h3⟩ := erase_one (ns := ns) (k := k) (by
        rcases List.mem_cons.mp h with y | y
        · exact absurd y.symm z
        · exact y)
      refine ⟨j + 1, by simpa using h1, fun m hm => ?_, ?_⟩
      · cases m with
        | zero => simpa using z
        | succ m => simpa using h2 m (by omega)
      · rw [List.eraseIdx_cons_succ, h3, List.erase_cons_tail (by simpa using z)]
section
variable {K : PySem.W.Frag} {σ : L2.St} {G G0 H H0 : Hp} {ta tb te : TE} {tr : TA} {D : Ends} {tz : TS} {d : PyData} {ds es : List PyData} {ns : List Int}
/-- x = list(t): a list of one's own -/
theorem d_listT {i : Nat} (P : Part G0 H0 G H) (h : EvD ta σ G (.tuple (ns.map .int))) (k : ∀ l H', H l = none → H' l = some (.lst (ns.map V.int)) → Part G0 H0 G H' → G l = none → H0 l = none → tz D (σ.set i (some (.ref l))) H') :
    tSeq (tAsg (tCB (rListS K) (tCons ta tNil)) (gName i)) tz D σ H := h H P.sub _ fun v G1 H1 p r => by
  cases r with
  | tup a b =>
    have e := b.ints
    subst e
    refine ⟨_, _, rfl, .inr (.inl (rd_up p.sub a)), fun l n => ?_⟩
    have n0 := fresh_back p.old n
    exact k l _ n0 upd_same ((P.on p.old).on (Ex.new n)) (fresh_back P.sub n0) (fresh_back P.old n0)
/-- x.remove(k) -/
theorem s_rem {l : Addr} {k : Int} (hl : H l = some (.lst (ns.map V.int))) (ha : Ev ta σ H (.ref l)) (h : Ev te σ H (.int k)) (hm : k ∈ ns) (q : ∀ H1, Ex H H1 → D.nx σ (upd H1 l (.lst ((ns.erase k).map V.int)))) :
    tDrop (tBM K "list" rRemI ta (tCons te tNil)) D σ H := ha H (Ex.refl H) _ fun H1 e1 => by
  refine ⟨Or.inl ⟨rfl, _, sq_of (e1 l _ hl)⟩, h H1 e1 _ fun H2 e2 => ?_⟩
  obtain ⟨j, h1, h2, h3⟩ := erase_one hm
  refine ⟨l, ns, k, j, rfl, rfl, e2 l _ (e1 l _ hl), h1, h2, ?_⟩
  rw [h3]
  exact q H2 (e1.trans e2)
end
/-! ### a list that is new -/
def WantN (o : Out) (G H : Hp) (Q : VK) (E : XK) : Prop := match o with
  | .val d => ∀ p G' H', Part G H G' H' → Rp G' (.ref p) d → G p = none → Q (.ref p) H'
  | .err C => ∀ H', Ex H H' → E (.ref C) none H'
def spN (r : List PyData → Out → Prop) : Sp := fun vs H Q E => ∃ G ds o, Ex G H ∧ RpA G vs ds ∧ r ds o ∧ WantN o G H Q E
section
variable {P : Program} {w : World} {K : PySem.W.Frag} {mg : Str → Option Value} {base : Heap} {x : Str} {ps N : List Str} {st : Stmt} {k : Nat} {f : Addr}
theorem Has.plain {r : List PyData → Out → Prop} (h : Has P w K mg base x ps k (spN r)) : Has P w K mg base x ps k (spO r) := by
  obtain ⟨f, fd, h1, h2, h3, h4⟩ := h.ex
  refine ⟨f, fd, h1, h2, h3, h4.imp ?_⟩
  rintro vs H Q E ⟨G, ds, o, e, rp, hr, q⟩
  refine ⟨G, ds, o, e, rp, hr, ?_⟩
  cases o with
  | val d => exact fun p G' H' P r _ => q _ G' H' P r
  | err C => exact q
theorem has_ofN {r : List PyData → Out → Prop} (a : At K mg x ps st f) (S : FnScope N ps (defScope st)) (hl : ∀ ds o, r ds o → ds.length = ps.length)
    (hbody : ∀ (cdv : Value) (A : Around) (outer : List Env) (s : Shared) (H : Hp) (vs : List V) (Q : VK) (E : XK), Room k (A.deeper (envOfC x (defScope st) s.heap.objs.size f cdv)) →
      (∃ t, PSs (cxOf (L2.CX P w) P w K mg base N x (defScope st) f cdv A outer s H E) (defBody st) t ∧
        ∀ G ds o, Ex G H → RpA G vs ds → r ds o → WantN o G H Q E → t { nx := fun _ H' => Q .non H', rt := Q } (start N vs) H)) : Has P w K mg base x ps (k + 1) (spN r) := by
  obtain ⟨fd, F, b⟩ := a.ex
  refine ⟨f, fd, a.g, F.kp, b, F.okX S (fun vs H Q E h => ?_) (fun cdv A outer s H vs Q E hr h => ?_)⟩
  · obtain ⟨G, ds, o, _, rp, h, _⟩ := h
    rw [rp.len]
    exact hl ds o h
  · obtain ⟨t, h1, h2⟩ := hbody cdv A outer s H vs Q E hr
    obtain ⟨G, ds, o, e, rp, h, q⟩ := h
    exact ⟨t, h1, h2 G ds o e rp h q⟩
end
section
variable {K : PySem.W.Frag} {σ : L2.St} {G G0 H H0 : Hp} {ta tb te : TE} {tr : TA} {D : Ends} {tz : TS} {d : PyData} {ds es : List PyData} {E : XK}
/-- return x + y, a new list -/
theorem d_retCat (P : Part G0 H0 G H) (h : EvD ta σ G (.list ds)) (k : EvD tb σ G (.list es)) (hl : ds.length + es.length ≤ 100000) (q : WantN (.val (.list (ds ++ es))) G0 H0 D.rt E) : tRet (tOp rCat ta tb) D σ H :=
  h H P.sub _ fun v G1 H1 p r => (k.mono p.ext) H1 p.sub _ fun w G2 H2 p2 r2 => by
    cases r with
    | lst a b =>
      cases r2 with
      | lst a2 b2 =>
        refine ⟨_, _, _, _, rfl, rfl, p2.sub _ _ (p2.ext _ _ a), p2.sub _ _ a2, by rw [b.len, b2.len]; exact sz_of hl, fun l n => ?_⟩
        have pz := (P.trans (p.trans p2))
        exact q l _ _ (pz.add n) (.lst upd_same (((b.up p2.ext).snoc b2).up (Ex.new (fresh_back p2.sub n)))) (fresh_back (pz.ext.trans p2.sub) n)
/-- x = f(..), the list new -/
theorem d_asgN {i : Nat} {r : List PyData → Out → Prop} (P : Part G0 H0 G H) (h : EdA tr σ G ds) (hr : r ds (.val (.list es))) (k : ∀ p G' H', Part G0 H0 G' H' → Ex G G' → Ex H H' → Rp G' (.ref p) (.list es) → G p = none → H p = none → tz D (σ.set i (some (.ref p))) H') :
    tSeq (tAsg (tCall (spN r) [] E tr) (gName i)) tz D σ H := h H P.sub _ fun vs G1 H1 p rs =>
  ⟨G1, ds, .val (.list es), p.sub, by rw [List.append_nil]; exact rs, hr, fun a G' H' p2 rp n => k a G' H' (P.trans (p.trans p2)) (p.ext.trans p2.ext) (p.old.trans p2.old) rp (fresh_back p.ext n) (by
    cases rp with
    | lst x y => exact fresh_back p.old (p2.new a _ x n))⟩
end
/-! ### pairs of neighbours, as data -/
def prD (p : Int × Int) : PyData := .tuple [.int p.1, .int p.2]
def jnF : PyData → Bool
  | .tuple [.int a, .int b] => decide (b = a + 1)
  | _ => false
def jnW : PyData → PyData
  | .tuple [.int a, _] => mvD (true, a)
  | _ => .none
def dbF : PyData → Bool
  | .tuple [.int a, .int b] => decide (a = b)
  | _ => false
def dbW : PyData → Int
  | .tuple [.int a, _] => a
  | _ => 0
theorem joins_lc {ns : List Int} (h : ns.Pairwise (· ≤ ·)) (hi : ∀ n ∈ ns, 0 ≤ n ∧ n ≤ 99) : lcD jnF jnW ((nx ns).map prD) = ((joinI ns).map fun k => (true, k)).map mvD := by
  unfold lcD
  rw [List.filter_map, List.map_map, ← joins_nx h hi, List.map_map, List.map_map]
  rfl
theorem kept_dbl {ns : List Int} (h : ns.Pairwise (· ≤ ·)) (hi : ∀ n ∈ ns, 0 ≤ n ∧ n ≤ 99) (k : Int) : k ∈ dblI ns ↔ Kept dbF dbW ((nx ns).map prD) k := by
  rw [mem_dbl hi, ← nx_dbl h]
  unfold Kept
  constructor
  · rintro ⟨p, hp, e1, e2⟩
    exact ⟨prD p, List.mem_map_of_mem hp, decide_eq_true e1, e2⟩
  · rintro ⟨d, hd, e1, e2⟩
    obtain ⟨p, hp, rfl⟩ := List.mem_map.mp hd
    exact ⟨p, hp, of_decide_eq_true e1, e2⟩
theorem joinI_len (ns : List Int) : (joinI ns).length ≤ 99 := by
  unfold joinI
  rw [List.length_map]
  exact Nat.le_trans (List.length_filter_le _ _) (by rw [List.length_range]; exact Nat.le_refl _)
theorem dblI_len (ns : List Int) : (dblI ns).length ≤ 100 := by
  unfold dblI
  rw [List.length_map]
  exact Nat.le_trans (List.length_filter_le _ _) (by rw [List.length_range]; exact Nat.le_refl _)
theorem filter_count {ns : List Int} {k j : Int} (h : j ≠ k) : (ns.filter fun x => decide (x ≠ k)).count j = ns.count j := by
  rw [List.count_filter]
  exact decide_eq_true h
theorem filter_len (k : Int) : ∀ ns : List Int, (ns.filter fun x => decide (x ≠ k)).length + ns.count k = ns.length
  | [] => rfl
  | n :: ns => by
    have ih := filter_len k ns
    by_cases z : n = k
    · subst z
      rw [List.filter_cons, if_neg (by simp), List.count_cons_self, List.length_cons]
      omega
    · rw [List.filter_cons, if_pos (by simpa using z), List.count_cons_of_ne z, List.length_cons, List.length_cons]
      omega
theorem two_each : ∀ (l ns : List Int), l.Nodup → 2 * (l.filter fun k => decide (1 < ns.count k)).length ≤ ns.length
  | [], ns, _ => Nat.zero_le _
  | k :: l, ns, h => by
    have h2 := List.nodup_cons.mp h
    by_cases z : 1 < ns.count k
    · have ih := two_each l (ns.filter fun x => decide (x ≠ k)) h2.2
      have e : (l.filter fun j => decide (1 < (ns.filter fun x => decide (x ≠ k)).count j)) = l.filter fun j => decide (1 < ns.count j) := List.filter_congr fun j hj => by
        rw [filter_count (k := k) (j := j) fun e => h2.1 (by rw [← e]; exact hj)]
      rw [e] at ih
      have := filter_len k ns
      rw [List.filter_cons, if_pos (decide_eq_true z), List.length_cons]
      omega
    · rw [List.filter_cons, if_neg (by simpa using z)]
      exact two_each l ns h2.2
/-- no more than half as many places stand twice -/
theorem dblI_half (ns : List Int) : 2 * (dblI ns).length ≤ ns.length := by
  have h := two_each ((List.range 100).map fun k : Nat => (k : Int)) ns (by
    rw [List.nodup_iff_pairwise_ne, List.pairwise_map]
    exact List.pairwise_lt_range.imp fun h => by omega)
  rw [List.filter_map, List.length_map] at h
  unfold dblI
  rw [List.length_map]
  exact h
/-! ### moves compared -/
theorem eqv_mv (a b : Bool × Int) : PyData.eqv (mvD a) (mvD b) = decide (a = b) := by
  obtain ⟨x, i⟩ := a
  obtain ⟨y, j⟩ := b
  have e1 : PyData.eqv (mvD (x, i)) (mvD (y, j)) = (PyData.eqv (.str (mvS x)) (.str (mvS y)) && (PyData.eqv (.int i) (.int j) && true)) := rfl
  have e2 : PyData.eqv (.str (mvS x)) (.str (mvS y)) = decide (x = y) := by cases x <;> cases y <;> decide +kernel
  have e3 : PyData.eqv (.int i) (.int j) = decide (i = j) := by simp [PyData.eqv]; exact Bool.eq_iff_iff.mpr (by rw [beq_iff_eq, decide_eq_true_eq])
  rw [e1, e2, e3, Bool.and_true, Bool.eq_iff_iff, Bool.and_eq_true, decide_eq_true_eq, decide_eq_true_eq, decide_eq_true_eq]
  constructor
  · rintro ⟨rfl, rfl⟩
    rfl
  · intro h
    cases h
    exact ⟨rfl, rfl⟩
theorem any_mv (ms : List (Bool × Int)) (m : Bool × Int) : ((ms.map mvD).any fun z => PyData.eqv z (mvD m)) = decide (m ∈ ms) := by
  rw [List.any_map, Bool.eq_iff_iff, List.any_eq_true, decide_eq_true_eq]
  constructor
  · rintro ⟨x, hx, e⟩
    have e2 : decide (x = m) = true := by rw [← eqv_mv]; exact e
    rw [← of_decide_eq_true e2]
    exact hx
  · intro h
    refine ⟨m, h, ?_⟩
    show PyData.eqv (mvD m) (mvD m) = true
    rw [eqv_mv, decide_eq_true rfl]
theorem lay_mv (m : Bool × Int) : PyData.canLay0 (mvD m) = true ∧ PyData.depth (mvD m) ≤ 1 := by
  obtain ⟨b, k⟩ := m
  have l0 : PyData.canLay0 (.str (mvS b)) = true := by cases b <;> decide +kernel
  constructor
  · show (PyData.canLay0 (.str (mvS b)) && (true && true)) = true
    rw [l0]
    rfl
  · exact Nat.le_refl 1
theorem shaped_mv (m : Bool × Int) : SeqAt.shaped (mvD m) = true := by
  obtain ⟨h1, h2⟩ := lay_mv m
  show (PyData.canLay0 (mvD m) && decide (PyData.depth (mvD m) ≤ 64)) = true
  rw [h1, decide_eq_true (by omega)]
  rfl
theorem lay_mvs : ∀ ms : List (Bool × Int), PyData.canLayAll0 (ms.map mvD) = true ∧ PyData.depthAll (ms.map mvD) ≤ 1
  | [] => ⟨rfl, by decide⟩
  | m :: ms => by
    obtain ⟨h1, h2⟩ := lay_mv m
    obtain ⟨h3, h4⟩ := lay_mvs ms
    constructor
    · show (PyData.canLay0 (mvD m) && PyData.canLayAll0 (ms.map mvD)) = true
      rw [h1, h3]
      rfl
    · show max (PyData.depth (mvD m)) (PyData.depthAll (ms.map mvD)) ≤ 1
      omega
theorem shaped_mvs (ms : List (Bool × Int)) : SeqAt.shaped (.list (ms.map mvD)) = true := by
  obtain ⟨h3, h4⟩ := lay_mvs ms
  show (PyData.canLayAll0 (ms.map mvD) && decide (PyData.depthAll (ms.map mvD) + 1 ≤ 64)) = true
  rw [h3, decide_eq_true (by omega)]
  rfl
theorem eqv_mvs : ∀ ms : List (Bool × Int), PyData.eqv (.list (ms.map mvD)) (.list (ms.map mvD)) = true
  | [] => rfl
  | m :: ms => by
    show (PyData.eqv (mvD m) (mvD m) && PyData.eqv (.list (ms.map mvD)) (.list (ms.map mvD))) = true
    rw [eqv_mv, decide_eq_true rfl, eqv_mvs ms]
    rfl
section
variable {σ : L2.St} {G G0 H H0 : Hp} {D : Ends} {tu tz : TS}
/-- for, where the start tells how the part grew from here -/
theorem d_forM {wi : TI} {g : TG} {its : List PyData} (P : Part G0 H0 G H) (h : EvI wi σ G its) (Pv : Hp → Nat → L2.St → Hp → Prop) (h0 : ∀ G1 H1, Part G H G1 H1 → Pv G1 0 σ H1) (hG : ∀ G1 i σ' H', i ≤ its.length → Pv G1 i σ' H' → Ex G1 H')
    (hs : ∀ G1 i x σ' H1 H', i < its.length → Ex G G1 → Pv G1 i σ' H1 → YSrc its G1 i H1 x H' → g x σ' H' fun σ2 H2 => tu { D with nx := Pv G1 (i + 1), ct := Pv G1 (i + 1), bk := tz D } σ2 H2) (hd : ∀ G1 σ' H', Ex G G1 → Pv G1 its.length σ' H' → tz D σ' H') :
    tSeq (tFor wi g tu) tz D σ H := h H P.sub _ fun J G1 H1 p W =>
  for_it (D := { D with nx := tz D }) W (Pv G1) (h0 G1 H1 p) (hG G1) (fun i x σ' Ha Hb hi q y => hs G1 i x σ' Ha Hb hi p.ext q y) (fun σ' H' q => hd G1 σ' H' p.ext q)
end
/-! ### a move done -/
def topI (m : Bool × Int) : Int := if m.1 = true then m.2 + 2 else if m.2 = 0 then 1 else if m.2 = 1 then 2 else m.2 + 1
theorem top_one (m : Bool × Int) : ∀ k, k ∈ comeI m → (∀ y, y ∈ comeI m → y ≤ k) → k = topI m := by
  intro k h1 h2
  unfold comeI topI at *
  split at h1
  · simp at h1
    rename_i z
    rw [if_pos z, h1]
  · rename_i z
    rw [if_neg z]
    rw [if_neg z] at h2
    split at h1
    · rename_i y
      simp at h1
      rw [if_pos y, h1]
    · rename_i y
      rw [if_neg y]
      rw [if_neg y] at h2
      split at h1
      · rename_i x
        rw [if_pos x]
        rw [if_pos x] at h2
        have := h2 2 (by simp)
        simp at h1
        omega
      · rename_i x
        rw [if_neg x]
        rw [if_neg x] at h2
        have := h2 (m.2 + 1) (by simp)
        simp at h1
        omega
theorem come_len (m : Bool × Int) : 0 < (comeI m).length ∧ (comeI m).length ≤ 2 := by
  unfold comeI
  split
  · exact ⟨by simp, by simp⟩
  · split
    · exact ⟨by simp, by simp⟩
    · split <;> exact ⟨by simp, by simp⟩
theorem come_top (m : Bool × Int) : topI m ∈ comeI m ∧ ∀ y ∈ comeI m, y ≤ topI m := by
  unfold comeI topI
  split
  · simp
  · split
    · simp
    · split
      · simp
      · simp
        omega
def doneO (C2 C3 : Addr) (ns : List Int) (m : Bool × Int) : Out := if m ∈ movesI ns then (if 99 < topI m then .err C3 else .val (.tuple ((afterI ns m).map .int))) else .err C2
def rDone (C0 C2 C3 : Addr) : List PyData → Out → Prop := fun ds o => (∃ d m, ds = [d, m] ∧ plainD d = true ∧ isPileD d = false ∧ o = .err C0) ∨
  (∃ (ns : List Int) (d : PyData), ds = [.tuple (ns.map .int), d] ∧ pileI ns = true ∧ ns.length ≤ 126 ∧ plainD d = true ∧ isMvD d = false ∧ o = .err C2) ∨
  ∃ (ns : List Int) (m : Bool × Int), ds = [.tuple (ns.map .int), mvD m] ∧ pileI ns = true ∧ ns.length ≤ 126 ∧ 0 ≤ m.2 ∧ m.2 ≤ 99 ∧ o = doneO C2 C3 ns m
theorem erase_len (ns : List Int) (k : Int) : (ns.erase k).length ≤ ns.length := (List.erase_sublist).length_le
theorem left_len (ns : List Int) (m : Bool × Int) : (leftI ns m).length ≤ ns.length := Nat.le_trans (erase_len _ _) (erase_len _ _)
theorem ed_callN {σ : L2.St} {G : Hp} {tr : TA} {ds : List PyData} {d : PyData} {E : XK} {r : List PyData → Out → Prop} (h : EdA tr σ G ds) (hr : r ds (.val d)) : EvD (tCall (spN r) [] E tr) σ G d := fun H x Q q =>
  h H x _ fun vs G1 H1 p rs => ⟨G1, ds, .val d, p.sub, by rw [List.append_nil]; exact rs, hr, fun a G' H' p2 rp _ => q _ G' H' (p.trans p2) rp⟩
theorem rg_lc {n : Nat} (f : PyData → Bool) (F : PyData → PyData) (g : Nat → Bool) (W : Int → PyData) (h1 : ∀ k : Nat, f (.int (k : Int)) = g k) (h2 : ∀ k : Nat, F (.int (k : Int)) = W (k : Int)) :
    lcD f F (rgD 0 n) = (((List.range n).filter g).map fun k : Nat => (k : Int)).map W := by
  unfold lcD rgD
  rw [List.filter_map, List.map_map, List.map_map]
  have e : (f ∘ fun k : Nat => PyData.int (0 + (k : Nat))) = g := by
    funext k
    show f (.int (0 + (k : Int))) = g k
    rw [Int.zero_add, h1]
  rw [e]
  refine List.map_congr_left fun k _ => ?_
  show F (.int (0 + (k : Int))) = W (k : Int)
  rw [Int.zero_add, h2]
end Lm

set_option maxHeartbeats 2000000
/-! What a move does to worth and weight; what the law's own defs promise. -/
namespace Lm
open PySem PySem.Spec PyProof.Rows L2 Evl
theorem sum_perm {l m : List Int} (p : l.Perm m) : l.sum = m.sum := by
  induction p with
  | nil => rfl
  | cons x _ ih => rw [List.sum_cons, List.sum_cons, ih]
  | swap x y l => rw [List.sum_cons, List.sum_cons, List.sum_cons, List.sum_cons]; omega
  | trans _ _ h1 h2 => rw [h1, h2]
theorem sum_erase {l : List Int} {a : Int} (f : Int → Int) (h : a ∈ l) : (l.map f).sum = f a + ((l.erase a).map f).sum := by
  rw [sum_perm ((List.perm_cons_erase h).map f), List.map_cons, List.sum_cons]
theorem sum_after {ns : List Int} {m : Bool × Int} (f : Int → Int) (h1 : goA m ∈ ns) (h2 : goB m ∈ ns.erase (goA m)) :
    (ns.map f).sum = f (goA m) + f (goB m) + ((leftI ns m).map f).sum ∧ ((afterI ns m).map f).sum = ((leftI ns m).map f).sum + ((comeI m).map f).sum := by
  constructor
  · rw [sum_erase f h1, sum_erase f h2]
    unfold leftI
    omega
  · unfold afterI
    rw [sum_perm ((srt_perm _).map f), List.map_append, List.sum_append]
theorem fw_two (k : Nat) : fw (k + 2) = fw k + fw (k + 1) := rfl
theorem worth_keeps {ns : List Int} {m : Bool × Int} (h0 : 0 ≤ m.2) (h1 : goA m ∈ ns) (h2 : goB m ∈ ns.erase (goA m)) : worthI (afterI ns m) = worthI ns := by
  unfold worthI
  obtain ⟨e1, e2⟩ := sum_after (fun i => fw i.toNat) h1 h2
  have key : (fun i : Int => fw i.toNat) (goA m) + (fun i : Int => fw i.toNat) (goB m) = ((comeI m).map fun i => fw i.toNat).sum := by
    obtain ⟨b, k⟩ := m
    have hk : 0 ≤ k := h0
    unfold goA goB comeI
    cases b with
    | true =>
      show fw k.toNat + fw (k + 1).toNat = (List.map (fun i : Int => fw i.toNat) [k + 2]).sum
      rw [show (k + 1).toNat = k.toNat + 1 by omega, List.map_cons, List.map_nil, List.sum_cons, List.sum_nil, show (k + 2).toNat = k.toNat + 2 by omega, fw_two]
      omega
    | false =>
      show fw k.toNat + fw k.toNat = (List.map (fun i : Int => fw i.toNat) (if k = 0 then [1] else if k = 1 then [0, 2] else [k - 2, k + 1])).sum
      split
      · rename_i z
        subst z
        decide
      · split
        · rename_i z
          subst z
          decide
        · obtain ⟨j, ej⟩ : ∃ j : Nat, k = (j : Int) + 2 := ⟨(k - 2).toNat, by omega⟩
          subst ej
          rw [List.map_cons, List.map_cons, List.map_nil, List.sum_cons, List.sum_cons, List.sum_nil, show ((j : Int) + 2).toNat = j + 2 by omega, show ((j : Int) + 2 - 2).toNat = j by omega, show ((j : Int) + 2 + 1).toNat = (j + 1) + 2 by omega, fw_two (j + 1), show j + 1 + 1 = j + 2 by omega, fw_two j]
          omega
  simp only at key
  omega
theorem weigh_less {ns : List Int} {m : Bool × Int} (h0 : 0 ≤ m.2) (h1 : goA m ∈ ns) (h2 : goB m ∈ ns.erase (goA m)) : weighI (afterI ns m) < weighI ns := by
  unfold weighI
  obtain ⟨e1, e2⟩ := sum_after mwI h1 h2
  have key : ((comeI m).map mwI).sum < mwI (goA m) + mwI (goB m) := by
    obtain ⟨b, k⟩ := m
    have hk : 0 ≤ k := h0
    unfold goA goB comeI
    cases b with
    | true =>
      show (List.map mwI [k + 2]).sum < mwI k + mwI (k + 1)
      rw [List.map_cons, List.map_nil, List.sum_cons, List.sum_nil]
      unfold mwI
      repeat' split
      all_goals omega
    | false =>
      show (List.map mwI (if k = 0 then [1] else if k = 1 then [0, 2] else [k - 2, k + 1])).sum < mwI k + mwI k
      split
      · rename_i z
        subst z
        decide
      · split
        · rename_i z
          subst z
          decide
        · rw [List.map_cons, List.map_cons, List.map_nil, List.sum_cons, List.sum_cons, List.sum_nil]
          unfold mwI
          repeat' split
          all_goals omega
  omega
theorem come_in {m : Bool × Int} (h0 : 0 ≤ m.2) (ht : topI m ≤ 99) : ∀ y ∈ comeI m, 0 ≤ y ∧ y ≤ 99 := by
  intro y hy
  refine ⟨?_, Int.le_trans ((come_top m).2 y hy) ht⟩
  unfold comeI at hy
  split at hy
  · simp at hy
    omega
  · split at hy
    · simp at hy
      omega
    · split at hy
      · simp at hy
        omega
      · simp at hy
        omega
theorem left_in {ns : List Int} {m : Bool × Int} (h : ∀ n ∈ ns, 0 ≤ n ∧ n ≤ 99) : ∀ n ∈ leftI ns m, 0 ≤ n ∧ n ≤ 99 := fun n hn => h n (List.mem_of_mem_erase (List.mem_of_mem_erase hn))
theorem after_mem {ns : List Int} {m : Bool × Int} {y : Int} : y ∈ afterI ns m ↔ y ∈ leftI ns m ∨ y ∈ comeI m := by
  unfold afterI
  rw [(srt_perm _).mem_iff, List.mem_append]
theorem after_len (ns : List Int) (m : Bool × Int) : (afterI ns m).length = (leftI ns m).length + (comeI m).length := by
  unfold afterI
  rw [srt_len, List.length_append]
theorem after_pile {ns : List Int} {m : Bool × Int} (h : ∀ n ∈ ns, 0 ≤ n ∧ n ≤ 99) (hz : ns.length ≤ 200) (h0 : 0 ≤ m.2) (ht : topI m ≤ 99) : pileI (afterI ns m) = true := by
  unfold afterI
  rw [pile_srt, Bool.and_eq_true, List.all_eq_true]
  have := left_len ns m
  have := (come_len m).2
  refine ⟨decide_eq_true (by rw [List.length_append]; omega), fun y hy => ?_⟩
  have hb : 0 ≤ y ∧ y ≤ 99 := by
    rcases List.mem_append.mp hy with hy | hy
    · exact left_in h y hy
    · exact come_in h0 ht y hy
  unfold inI
  rw [decide_eq_true hb.1, decide_eq_true hb.2]
  rfl
/-- the greatest of what comes out tells whether the move goes above the last place -/
theorem after_max {ns : List Int} {m : Bool × Int} (h : ∀ n ∈ ns, 0 ≤ n ∧ n ≤ 99) : ∃ k, (∀ j, j ∈ afterI ns m → (∀ y, y ∈ afterI ns m → y ≤ j) → j = k) ∧ (99 < k ↔ 99 < topI m) := by
  obtain ⟨t1, t2⟩ := come_top m
  have tm : topI m ∈ afterI ns m := after_mem.mpr (.inr t1)
  by_cases hh : ∃ k, k ∈ afterI ns m ∧ ∀ y, y ∈ afterI ns m → y ≤ k
  · obtain ⟨k, k1, k2⟩ := hh
    refine ⟨k, fun j j1 j2 => Int.le_antisymm (k2 j j1) (j2 k k1), fun z => ?_, fun z => Int.lt_of_lt_of_le z (k2 _ tm)⟩
    rcases after_mem.mp k1 with y | y
    · have := left_in h k y
      omega
    · exact Int.lt_of_lt_of_le z (t2 k y)
  · refine ⟨topI m, fun j j1 j2 => absurd ⟨j, j1, j2⟩ hh, Iff.rfl⟩
def lcomeI (m : Bool × Int) : List Int := if m.1 = true then [m.2 + 2] else if m.2 = 0 then [1] else if m.2 = 1 then [2, 0] else [m.2 + 1, m.2 - 2]
theorem lcome_perm (m : Bool × Int) : (lcomeI m).Perm (comeI m) := by
  unfold lcomeI comeI
  split
  · exact .refl _
  · split
    · exact .refl _
    · split
      · exact .swap _ _ _
      · exact .swap _ _ _
def rLParts : List PyData → Out → Prop := fun ds o => ∃ m, ds = [mvD m] ∧ o = .val (.list [.list ([goA m, goB m].map .int), .list ((lcomeI m).map .int)])
def dueD (ns : List Int) (m : Bool × Int) : PyData := if m ∈ movesI ns then .tuple ((afterI ns m).map .int) else .none
def rLAfter : List PyData → Out → Prop := fun ds o => ∃ ns m, ds = [.tuple (ns.map .int), mvD m] ∧ (∀ n ∈ ns, 0 ≤ n ∧ n ≤ 99) ∧ ns.length ≤ 1000 ∧ o = .val (dueD ns m)
def rLMoves : List PyData → Out → Prop := fun ds o => ∃ ns : List Int, ds = [frzD ns] ∧ o = .val (.list ((movesI ns).map mvD))
def rLSame : List PyData → Out → Prop := fun ds o => ∃ ns : List Int, ds = [.tuple (ns.map .int), .tuple (ns.map .int)] ∧ ns.length ≤ 1000 ∧ o = .val (.bool true)
def rLWeigh : List PyData → Out → Prop := fun ds o => ∃ ns : List Int, ds = [.tuple (ns.map .int)] ∧ ns.length ≤ 1000 ∧ (∀ n ∈ ns, 0 ≤ n) ∧ o = .val (.int (weighI ns))
def rLOne : List PyData → Out → Prop := fun ds o => ∃ ns m, ds = [.tuple (ns.map .int), mvD m] ∧ pileI ns = true ∧ ns.length ≤ 126 ∧ 0 ≤ m.2 ∧ m.2 ≤ 99 ∧ o = .val (.bool true)
def rLAll : List PyData → Out → Prop := fun ds o => ∃ ns : List Int, ds = [frzD ns] ∧ pileI ns = true ∧ ns.length ≤ 126 ∧ o = .val (.bool true)
theorem lc_none (F : PyData → PyData) (ds : List PyData) : PyData.list (lcD (fun _ => false) F ds) = .list [] := by
  unfold lcD
  rw [List.filter_eq_nil_iff.mpr (fun _ _ => by decide)]
  rfl
theorem kit_ii : kitB "int" "int" = some true := by decide +kernel
section
variable {σ : L2.St} {G G0 H H0 : Hp} {D : Ends} {tu tz : TS}
/-- for x in ..: a word on the slots; the heap only grows -/
theorem d_forL {wi : TI} {j : Nat} {its : List PyData} (P : Part G0 H0 G H) (h : EvI wi σ G its) (C : L2.St → Prop) (hC : C σ)
    (hs : ∀ (i : Nat) (d : PyData) (x : V) (σ' : L2.St) (G' H' : Hp) (N : L2.St → Hp → Prop), its[i]? = some d → Ex G G' → Part G0 H0 G' H' → Rp G' x d → C σ' → (∀ σ2 H2, C σ2 → Ex H' H2 → N σ2 H2) →
      tu { D with nx := N, ct := N, bk := tz D } (σ'.set j (some x)) H')
    (hd : ∀ (σ' : L2.St) (G' H' : Hp), C σ' → Ex G G' → Part G0 H0 G' H' → tz D σ' H') :
    tSeq (tFor wi (gName j) tu) tz D σ H := by
  refine d_for P h (fun G1 _ σ' H' => C σ' ∧ Part G0 H0 G1 H') (fun G1 H1 p _ _ => ⟨hC, p⟩) (fun G1 i σ' H' _ q => q.2.sub) (fun G1 i x σ' H1 H' hi e1 q y => ?_) fun G1 σ' H' e1 q => hd σ' G1 H' q.1 e1 q.2
  obtain ⟨c, P1⟩ := q
  obtain ⟨G', d, p, e3, r⟩ := y G1 (Ex.refl G1) P1.sub
  exact hs i d x σ' G' H' _ e3 (e1.trans p.ext) (P1.trans p) r c fun σ2 H2 c2 x2 => ⟨c2, P1.on (p.old.trans x2)⟩
end
def toldD (ns : List Int) (m : Bool × Int) : PyData := if m ∈ movesI ns then (if 99 < topI m then .str "TooGreat" else .tuple ((afterI ns m).map .int)) else .str "NoMove"
theorem told_ok {K : PySem.W.Frag} {mg : Str → Option Value} (R : ErrTxt K mg) (ns : List Int) (m : Bool × Int) : Tried R (doneO (R.c 2) (R.c 3) ns m) (toldD ns m) := by
  unfold doneO toldD
  split
  · split
    · exact ⟨3, by decide, rfl, rfl⟩
    · exact rfl
  · exact ⟨2, by decide, rfl, rfl⟩
theorem weighD_ints (ns : List Int) : weighD (.tuple (ns.map .int)) = weighI ns := by
  show weighI ((ns.map PyData.int).map toI) = _
  rw [toI_map]
def pilesL (p : List Int) : List (List Int) := [p, [98, 99], [99, 99], [97, 98, 98], [0, 0, 0, 1, 1, 1], []]
theorem piles_all {p : List Int} (h : pileI p = true) (hl : p.length ≤ 126) : ∀ ns ∈ pilesL p, pileI ns = true ∧ ns.length ≤ 126 := by
  intro ns hn
  unfold pilesL at hn
  simp only [List.mem_cons, List.not_mem_nil, or_false] at hn
  rcases hn with rfl | rfl | rfl | rfl | rfl | rfl
  · exact ⟨h, hl⟩
  all_goals exact ⟨by decide +kernel, by decide⟩
def oddL : List PyData := [.tuple [.str "join"], .tuple [.str "part", .int 0, .int 0], .list [.str "part", .int 0], .tuple [.str "parts", .int 0], .tuple [.none, .int 0], .tuple [.str "join", .int (-1)], .tuple [.str "part", .int 100]] ++
  [.tuple [.str "join", .none], .tuple [.str "part", .str "0"], .none, .str "join", .int 3, .tuple []]
theorem odd_all : ∀ d ∈ oddL, plainD d = true ∧ isMvD d = false := by
  intro d hd
  unfold oddL at hd
  simp only [List.cons_append, List.nil_append, List.mem_cons, List.not_mem_nil, or_false] at hd
  rcases hd with rfl | rfl | rfl | rfl | rfl | rfl | rfl | rfl | rfl | rfl | rfl | rfl | rfl
  all_goals exact ⟨by decide +kernel, by decide +kernel⟩
theorem kit_ll : kitB "list" "list" = some true := by decide +kernel
theorem shaped_err {k : Nat} (h : k < 6) : SeqAt.shaped (.str (errName k)) = true := by
  match k, h with
  | 0, _ => decide +kernel
  | 1, _ => decide +kernel
  | 2, _ => decide +kernel
  | 3, _ => decide +kernel
  | 4, _ => decide +kernel
  | 5, _ => decide +kernel
theorem eqv_err {k : Nat} (h : k < 6) : PyData.eqv (.str (errName k)) (.str (errName k)) = true := by
  match k, h with
  | 0, _ => decide +kernel
  | 1, _ => decide +kernel
  | 2, _ => decide +kernel
  | 3, _ => decide +kernel
  | 4, _ => decide +kernel
  | 5, _ => decide +kernel
theorem done_one {C2 C3 : Addr} : Out.val (.tuple ([1, 1].map .int)) = doneO C2 C3 [0, 0, 1] (false, 0) := by
  unfold doneO
  rw [if_pos (by decide +kernel), if_neg (by decide +kernel)]
  rfl
end Lm

set_option maxHeartbeats 2000000
/-! The row of a number: from the greatest place down, as much as fits. -/
namespace Lm
open PySem PySem.Spec PyProof.Rows L2 Evl
theorem fw_pos : ∀ k : Nat, 1 ≤ fw k
  | 0 => by decide
  | 1 => by decide
  | k + 2 => by
    rw [fw_two]
    have := fw_pos k
    have := fw_pos (k + 1)
    omega
theorem fw_up (k : Nat) : fw k < fw (k + 1) := by
  match k with
  | 0 => decide
  | k + 1 =>
    rw [fw_two]
    have := fw_pos k
    omega
theorem fw_mono {j k : Nat} (h : j ≤ k) : fw j ≤ fw k := by
  induction h with
  | refl => exact Int.le_refl _
  | step _ ih => exact Int.le_trans ih (Int.le_of_lt (fw_up _))
/-- below place k, greatest first -/
def grd : Nat → Int → List Int
  | 0, _ => []
  | k + 1, n => if fw k ≤ n then (k : Int) :: grd k (n - fw k) else grd k n
theorem grd_step {k : Nat} {n : Int} (h : n < fw (k + 1)) (hk : fw k ≤ n) : n - fw k < fw k := by
  match k with
  | 0 =>
    have e0 : fw 0 = 1 := rfl
    have e1 : fw (0 + 1) = 2 := rfl
    omega
  | k + 1 =>
    rw [fw_two] at h
    have := fw_up k
    omega
theorem grd_sum : ∀ {k : Nat} {n : Int}, 0 ≤ n → n < fw k → ((grd k n).map fun i => fw i.toNat).sum = n
  | 0, n, h0, h => by
    have e0 : fw 0 = 1 := rfl
    have : n = 0 := by omega
    subst this
    rfl
  | k + 1, n, h0, h => by
    unfold grd
    by_cases z : fw k ≤ n
    · rw [if_pos z, List.map_cons, List.sum_cons, grd_sum (by omega) (grd_step h z)]
      show fw (Int.toNat (k : Int)) + (n - fw k) = n
      rw [Int.toNat_natCast]
      omega
    · rw [if_neg z]
      exact grd_sum h0 (by omega)
theorem grd_below : ∀ {k : Nat} {n : Int}, ∀ x ∈ grd k n, 0 ≤ x ∧ x < k
  | 0, _, x, h => by cases h
  | k + 1, n, x, h => by
    unfold grd at h
    split at h
    · rcases List.mem_cons.mp h with rfl | h
      · omega
      · have := grd_below x h
        omega
    · have := grd_below x h
      omega
/-- what fits below fw k uses places below k only by number -/
theorem grd_small : ∀ {k j : Nat} {n : Int}, j ≤ k → n < fw j → grd k n = grd j n
  | 0, j, n, hj, h => by
    have : j = 0 := by omega
    subst this
    rfl
  | k + 1, j, n, hj, h => by
    by_cases e : j = k + 1
    · subst e
      rfl
    · have := fw_mono (show j ≤ k by omega)
      rw [show grd (k + 1) n = (if fw k ≤ n then (k : Int) :: grd k (n - fw k) else grd k n) from rfl, if_neg (by omega)]
      exact grd_small (by omega) h
/-- neighbours stand two apart -/
theorem grd_loose : ∀ {k : Nat} {n : Int}, n < fw k → (grd k n).Pairwise fun a b => b + 1 < a
  | 0, _, _ => .nil
  | k + 1, n, h => by
    unfold grd
    by_cases z : fw k ≤ n
    · rw [if_pos z]
      refine List.pairwise_cons.mpr ⟨fun x hx => ?_, grd_loose (grd_step h z)⟩
      match k with
      | 0 => cases hx
      | k + 1 =>
        have hs : n - fw (k + 1) < fw k := by
          rw [fw_two] at h
          omega
        rw [grd_small (Nat.le_succ k) hs] at hx
        have := grd_below x hx
        show x + 1 < ((k + 1 : Nat) : Int)
        omega
    · rw [if_neg z]
      exact grd_loose (by omega)
def rowI (n : Int) : List Int := (grd 100 n).reverse
/-- rows: rising by two at least -/
def Loose (ns : List Int) : Prop := ns.Pairwise fun a b => a + 1 < b
theorem row_loose {n : Int} (h : n < fw 100) : Loose (rowI n) := by
  unfold Loose rowI
  rw [List.pairwise_reverse]
  exact grd_loose h
theorem row_in {n : Int} : ∀ x ∈ rowI n, 0 ≤ x ∧ x ≤ 99 := fun x hx => by
  unfold rowI at hx
  have := grd_below x (List.mem_reverse.mp hx)
  omega
theorem row_worth {n : Int} (h0 : 0 ≤ n) (h : n < fw 100) : worthI (rowI n) = n := by
  unfold worthI rowI
  rw [sum_perm ((List.reverse_perm _).map _)]
  exact grd_sum h0 h
theorem loose_near {ns : List Int} : Loose ns ↔ looseI ns = true := by
  unfold Loose looseI
  induction ns with
  | nil => exact ⟨fun _ => rfl, fun _ => .nil⟩
  | cons a r ih =>
    cases r with
    | nil => exact ⟨fun _ => rfl, fun _ => List.pairwise_singleton _ _⟩
    | cons b r =>
      rw [nx_cons, List.all_cons, Bool.and_eq_true, ← ih]
      constructor
      · intro h
        have h1 := (List.pairwise_cons.mp h).1 b List.mem_cons_self
        exact ⟨decide_eq_true (by show 1 < b - a; omega), (List.pairwise_cons.mp h).2⟩
      · rintro ⟨h1, h2⟩
        have h3 : 1 < b - a := of_decide_eq_true h1
        refine List.pairwise_cons.mpr ⟨fun x hx => ?_, h2⟩
        rcases List.mem_cons.mp hx with rfl | hx
        · omega
        · have := (List.pairwise_cons.mp h2).1 x hx
          omega
theorem loose_pile {ns : List Int} (h : Loose ns) (hi : ∀ n ∈ ns, 0 ≤ n ∧ n ≤ 99) (hz : ns.length ≤ 240) : pileI ns = true := by
  unfold pileI
  rw [decide_eq_true hz, rise_nx (h.imp fun z => by omega), Bool.and_eq_true, Bool.and_eq_true]
  refine ⟨rfl, List.all_eq_true.mpr fun n hn => ?_, rfl⟩
  unfold inI
  rw [decide_eq_true (hi n hn).1, decide_eq_true (hi n hn).2]
  rfl
/-- a loose row below k is worth less than a mark at k, and it is what the greedy way finds; greatest first -/
theorem loose_greedy : ∀ {k : Nat} {ms : List Int}, ms.Pairwise (fun a b => b + 1 < a) → (∀ x ∈ ms, 0 ≤ x ∧ x < k) → (ms.map fun i => fw i.toNat).sum < fw k ∧ 0 ≤ (ms.map fun i => fw i.toNat).sum ∧ grd k (ms.map fun i => fw i.toNat).sum = ms
  | k, [], _, _ => by
    refine ⟨fw_pos k, Int.le_refl 0, ?_⟩
    show grd k 0 = []
    rw [grd_small (j := 0) (Nat.zero_le k) (by decide)]
    rfl
  | k, m :: ms, hp, hb => by
    have bm := hb m List.mem_cons_self
    obtain ⟨j, rfl⟩ : ∃ j : Nat, m = (j : Int) := ⟨m.toNat, by omega⟩
    have jk : j < k := by omega
    have h1 := (List.pairwise_cons.mp hp).1
    have h2 := (List.pairwise_cons.mp hp).2
    rw [List.map_cons, List.sum_cons, show (Int.toNat (j : Int)) = j from Int.toNat_natCast j]
    obtain ⟨a1, a2, a3⟩ := loose_greedy (k := j - 1) h2 (fun x hx => by
      have := h1 x hx
      have := hb x (List.mem_cons_of_mem _ hx)
      omega)
    have lt : fw j + (ms.map fun i => fw i.toNat).sum < fw (j + 1) := by
      match j with
      | 0 =>
        have e0 : fw 0 = 1 := rfl
        have e1 : fw (0 + 1) = 2 := rfl
        have : ms = [] := by
          cases ms with
          | nil => rfl
          | cons x r =>
            have := h1 x List.mem_cons_self
            have := hb x (List.mem_cons_of_mem _ List.mem_cons_self)
            omega
        subst this
        show fw 0 + 0 < fw (0 + 1)
        omega
      | j + 1 =>
        rw [fw_two]
        have a1' : (ms.map fun i => fw i.toNat).sum < fw j := a1
        omega
    refine ⟨Int.lt_of_lt_of_le lt (fw_mono jk), by have := fw_pos j; omega, ?_⟩
    have st : ∀ X, grd (j + 1) X = if fw j ≤ X then (j : Int) :: grd j (X - fw j) else grd j X := fun _ => rfl
    rw [grd_small (j := j + 1) jk lt, st, if_pos (by omega), show fw j + (ms.map fun i => fw i.toNat).sum - fw j = (ms.map fun i => fw i.toNat).sum by omega]
    congr 1
    have hj : (ms.map fun i => fw i.toNat).sum < fw j := Int.lt_of_lt_of_le a1 (fw_mono (Nat.sub_le j 1))
    rw [grd_small (j := j - 1) (Nat.sub_le j 1) a1]
    exact a3
/-- THE ONE ROW: a loose row is the row of what it is worth -/
theorem loose_row {ns : List Int} (h : Loose ns) (hi : ∀ n ∈ ns, 0 ≤ n ∧ n ≤ 99) : worthI ns < fw 100 ∧ rowI (worthI ns) = ns := by
  have hp : ns.reverse.Pairwise fun a b => b + 1 < a := List.pairwise_reverse.mpr h
  obtain ⟨h1, _, h2⟩ := loose_greedy (k := 100) hp fun x hx => by
    have := hi x (List.mem_reverse.mp hx)
    omega
  have e : worthI ns = (ns.reverse.map fun i => fw i.toNat).sum := by
    unfold worthI
    exact (sum_perm ((List.reverse_perm _).map _)).symm
  rw [e]
  refine ⟨h1, ?_⟩
  unfold rowI
  rw [h2, List.reverse_reverse]
/-- a pile without moves is a row -/
theorem no_moves {ns : List Int} (hp : pileI ns = true) : movesI ns = [] ↔ Loose ns := by
  have rise := pile_rise hp
  have hin := pile_in hp
  rw [loose_near]
  unfold looseI
  rw [List.all_eq_true]
  constructor
  · intro h p hpm
    have hle : p.1 ≤ p.2 := by
      have h2 := hp
      unfold pileI at h2
      rw [Bool.and_eq_true, Bool.and_eq_true] at h2
      exact of_decide_eq_true (List.all_eq_true.mp h2.2.2 p hpm)
    have n1 : p.2 ≠ p.1 + 1 := fun z => by
      have hj := (mem_join hin p.1).mpr ((nx_join rise p.1).mp ⟨p, hpm, z, rfl⟩)
      have hm : (true, p.1) ∈ movesI ns := by
        unfold movesI
        exact List.mem_append_left _ (List.mem_map_of_mem hj)
      rw [h] at hm
      cases hm
    have n0 : p.1 ≠ p.2 := fun z => by
      have hj := (mem_dbl hin p.1).mpr ((nx_dbl rise p.1).mp ⟨p, hpm, z, rfl⟩)
      have hm : (false, p.1) ∈ movesI ns := by
        unfold movesI
        exact List.mem_append_right _ (List.mem_map_of_mem hj)
      rw [h] at hm
      cases hm
    exact decide_eq_true (by show 1 < p.2 - p.1; omega)
  · intro h
    rw [List.eq_nil_iff_forall_not_mem]
    rintro ⟨b, k⟩ hm
    unfold movesI at hm
    rw [List.mem_append, List.mem_map, List.mem_map] at hm
    rcases hm with ⟨j, hj, e⟩ | ⟨j, hj, e⟩
    · obtain ⟨p, hp1, z, _⟩ := (nx_join rise j).mpr ((mem_join hin j).mp hj)
      have h1 : 1 < p.2 - p.1 := of_decide_eq_true (h p hp1)
      omega
    · obtain ⟨p, hp1, z, _⟩ := (nx_dbl rise j).mpr ((mem_dbl hin j).mp hj)
      have h1 : 1 < p.2 - p.1 := of_decide_eq_true (h p hp1)
      omega
/-- where moves end is the one row of the worth -/
theorem settled_row {ns : List Int} (hp : pileI ns = true) (h : movesI ns = []) : worthI ns < fw 100 ∧ rowI (worthI ns) = ns := loose_row ((no_moves hp).mp h) (pile_in hp)
theorem weigh_pos (ns : List Int) (h : ∀ n ∈ ns, 0 ≤ n) : 0 ≤ weighI ns := by
  unfold weighI
  induction ns with
  | nil => exact Int.le_refl 0
  | cons a r ih =>
    rw [List.map_cons, List.sum_cons]
    have := ih fun n hn => h n (List.mem_cons_of_mem _ hn)
    have h0 := h a List.mem_cons_self
    have : 0 ≤ mwI a := by
      unfold mwI
      split
      · decide
      · split
        · decide
        · omega
    omega
theorem worth_mem {ns : List Int} {k : Int} (h : k ∈ ns) : fw k.toNat ≤ worthI ns := by
  unfold worthI
  rw [sum_erase (fun i => fw i.toNat) h]
  have : ∀ l : List Int, 0 ≤ (l.map fun i => fw i.toNat).sum := fun l => by
    induction l with
    | nil => exact Int.le_refl 0
    | cons a r ih =>
      rw [List.map_cons, List.sum_cons]
      have := fw_pos a.toNat
      omega
  have := this (ns.erase k)
  show fw k.toNat ≤ fw k.toNat + _
  omega
/-- where the worth is below that of place 100 no move goes above place 99 -/
theorem top_fits {ns : List Int} {m : Bool × Int} (hi : ∀ n ∈ ns, 0 ≤ n ∧ n ≤ 99) (hm : m ∈ movesI ns) (hw : worthI ns < fw 100) : topI m ≤ 99 := by
  obtain ⟨h1, h2⟩ := (mem_moves hi m).mp hm
  have h0 : 0 ≤ m.2 := (hi _ h1).1
  have e := worth_keeps h0 h1 h2
  by_cases z : topI m ≤ 99
  · exact z
  · have hin : topI m ∈ afterI ns m := after_mem.mpr (.inr (come_top m).1)
    have h3 := worth_mem hin
    have h4 := fw_mono (show 100 ≤ (topI m).toNat by omega)
    omega
end Lm

set_option maxHeartbeats 2000000
/-! reversed: of a range, of a list made a tuple. -/
namespace Lm
open PySem PySem.Spec PyProof.Rows L2 Evl RT
def rvD (n : Nat) : List PyData := (List.range n).map fun k : Nat => .int ((n : Int) - 1 - (k : Int))
theorem rvD_len (n : Nat) : (rvD n).length = n := by
  unfold rvD
  rw [List.length_map, List.length_range]
theorem rvD_at {n i : Nat} (h : i < n) : (rvD n)[i]? = some (.int ((n : Int) - 1 - (i : Int))) := by
  unfold rvD
  rw [List.getElem?_map, List.getElem?_range h]
  rfl
section
variable {K : PySem.W.Frag} {σ : L2.St} {G : Hp} {ta : TE} {ds : List PyData}
theorem ei_revR {j : Int} (h : EvD ta σ G (.int j)) (c : 0 ≤ j ∧ j < 2 ^ 62) : EvI (iRevR (tRg1 ta)) σ G (rvD j.toNat) := fun H x R q => h H x _ fun v G1 H1 p r => by
  cases r
  refine ⟨j, rfl, by decide, by decide, by omega, c.2, q _ G1 H1 p ?_⟩
  rw [rvD_len, show (j - 0).toNat = j.toNat by rw [Int.sub_zero]]
  refine ⟨fun i H hi _ => hi, fun H _ => Nat.le_refl _, fun i H y H' hi _ hy Gc c1 c2 => ?_⟩
  obtain ⟨rfl, rfl⟩ := hy
  refine ⟨Gc, _, Part.refl c2, rvD_at hi, ?_⟩
  rw [show (0 : Int) + ((j.toNat : Nat) : Int) - 1 + (i : Int) * -1 = ((j.toNat : Nat) : Int) - 1 - (i : Int) by omega]
  exact .int _
theorem ed_tupRev (h : EvD ta σ G (.list ds)) : EvD (tTupRev K ta) σ G (.tuple ds.reverse) := fun H x Q q =>
  h H x _ fun v G1 H1 p r => by
    cases r with
    | lst a b => exact ⟨_, _, rfl, .inl (.inl (p.sub _ _ a)), fun l n => q _ _ _ (p.add n) (.tup (.inl upd_same) (b.rev.up (Ex.new (fresh_back p.sub n))))⟩
end
end Lm

set_option maxHeartbeats 2000000
/-! A def that is handed in, whatever it promises; a deed tried, whatever it promises. -/
namespace Lm
open PySem PySem.Spec PyProof.Rows L2 Evl
/-- a def of the text, or one that was made while running -/
def FnH (K : PySem.W.Frag) (H : Hp) (f : Addr) : Prop := PySem.W.keepIn K (.ref f) = true ∨ ∃ F, H f = some (NdefX.FnO f F)
theorem FnH.up {K : PySem.W.Frag} {H H' : Hp} {f : Addr} (h : FnH K H f) (e : Ex H H') : FnH K H' f := h.imp id fun ⟨F, q⟩ => ⟨F, e _ _ q⟩
/-- what may be handed in: a promise by positional values -/
abbrev Fr_ (P : Program) (w : World) (K : PySem.W.Frag) (mg : Str → Option Value) (base : Heap) (k : Nat) (f : Addr) (sp : Sp) : Prop := FnR P w K mg base (L2.CX P w) k f sp
/-- the slot i holds it, called with t -/
def tCallP (P : Program) (w : World) (K : PySem.W.Frag) (mg : Str → Option Value) (base : Heap) (k i : Nat) (E : L2.St → XK) (t : TA) : TE := fun σ H Q =>
  ∃ f sp, σ[i]? = some (some (.ref f)) ∧ Fr_ P w K mg base k f sp ∧ ((PySem.W.keepIn K (.ref f) = true ∧ t σ H fun vs H1 => sp vs H1 Q (E σ)) ∨ ∃ F, H f = some (NdefX.FnO f F) ∧ t σ H fun vs H1 => H1 f = some (NdefX.FnO f F) ∧ sp vs H1 Q (E σ))
section
variable {X : Cx} {k i : Nat} {x : Str} {p pos : Pos} {e : Expr} {es : List Expr} {t : TA} {E : L2.St → XK}
theorem run_P {pins : List (Addr × Obj)} {σ : L2.St} {H : Hp} {s : Shared} {Q : VK} {us : List Value} {vs : List V} {f : Addr} {sp : Sp} {E : XK} (F : Fr_ X.prog X.w X.K X.mg X.base k f sp) (hr : Room k X.A) (hx : PassesAt (L2.CX X.prog X.w) X σ E)
    (I : Inv X pins σ H s) (r : Vals vs us) (h : sp vs H Q E) : wpAny (model X.prog X.w) X.A (call (.ref f) us) (EP X pins σ Q) X.xe s := by
  refine wpAny_call (codeAny_mono (F X.A X.stack s H us vs Q E hr I.env0 r h) fun r s' hq => ?_)
  cases r with
  | error e => exact hx pins H s e s' I hq
  | ok fl =>
    cases fl with
    | ret u => exact I.after hq
    | next => exact False.elim hq
    | brk => exact False.elim hq
    | cont => exact False.elim hq
theorem pe_callP (hr : Room k X.A) (hN : X.N[i]? = some x) (hv : Vis X.env.scope x) (hx : ∀ σ, PassesAt (L2.CX X.prog X.w) X σ (E σ)) (ha : PA X (e :: es) t)
    (hdb : (x == ("__debug__" : Str)) = false := by decide) (hcd : (x == ("__classdict__" : Str)) = false := by decide)
    (he : starEach (e :: es) X.env = (false, eval e X.env) :: starEach es X.env := by rfl) (hpl : (backTo pos (starEach es X.env)).any (·.1) = false := by rfl) : PE X (.Call (.Name x p) (e :: es) [] pos) (tCallP X.prog X.w X.K X.mg X.base k i E t) := by
  refine ⟨fun pins s σ H Q I h => ?_⟩
  obtain ⟨f, sp, hs, F, h⟩ := h
  refine wpAny_Call_Name_kw (thn ((pe_var (pos := p) hN hv hdb hcd).run pins s σ H (fun v H1 => v = .ref f ∧ H1 = H) I ⟨.ref f, hs, rfl, rfl⟩) fun u s1 ⟨v, H1, I1, r1, q1⟩ => ?_)
  obtain ⟨rfl, rfl⟩ := q1
  cases r1
  rcases h with ⟨hk, ht⟩ | ⟨Fn, hk, ht⟩
  · refine PySem.W.callWith_K (h₀ := X.base) I.ok.mod.kin hk (thn (ha.run pos pins s1 σ _ _ I1 ht) fun us s2 ⟨vs, H2, I2, r, q⟩ => ⟨I2.kIn, ?_⟩) he hpl
    exact run_P F hr (hx σ) I2 r q
  · refine PySem.W.callWith_F (first := []) (NdefX.fnAt_of I1 hk) (thn (ha.run pos pins s1 σ _ _ I1 ht) fun us s2 ⟨vs, H2, I2, r, h1, q⟩ => ⟨NdefX.fnAt_of I2 h1, ?_⟩) he hpl
    exact run_P F hr (hx σ) I2 r q
end
section
variable {P : Program} {w : World} {K : PySem.W.Frag} {mg : Str → Option Value} {base : Heap} {x : Str} {ps : List Str} {k j i : Nat} {sp : Sp} {f : Addr} {σ : L2.St} {G H : Hp} {tr : TA} {ds : List PyData} {Q : VK} {E : L2.St → XK}
theorem Has.fnr (h : Has P w K mg base x ps k sp) (g : mg x = some (.ref f)) (hk : k ≤ j) : Fr_ P w K mg base j f sp := by
  obtain ⟨f', fd, h1, h2, h3, h4⟩ := h.ex
  rw [g] at h1
  cases h1
  refine ((h4.mono hk).raw h3 .nil).imp fun vs H Q E q => ?_
  rw [List.append_nil]
  exact q
theorem Has.keep (h : Has P w K mg base x ps k sp) (g : mg x = some (.ref f)) : PySem.W.keepIn K (.ref f) = true := by
  obtain ⟨f', fd, h1, h2, h3, h4⟩ := h.ex
  rw [g] at h1
  cases h1
  exact h2
theorem At.kp {st : Stmt} (a : At K mg x ps st f) : PySem.W.keepIn K (.ref f) = true := by
  obtain ⟨fd, F, b⟩ := a.ex
  exact F.kp
/-- the reading: the arguments are data, the heap only grows while they are made -/
theorem callP_of (x : Ex G H) (hs : σ[i]? = some (some (.ref f))) (F : Fr_ P w K mg base k f sp) (hk : FnH K H f) (h : EdA tr σ G ds) (q : ∀ vs G1 H1, Part G H G1 H1 → RpA G1 vs ds → sp vs H1 Q (E σ)) : tCallP P w K mg base k i E tr σ H Q := by
  refine ⟨f, sp, hs, F, ?_⟩
  rcases hk with hk | ⟨Fn, hk⟩
  · exact .inl ⟨hk, h H x _ q⟩
  · exact .inr ⟨Fn, hk, h H x _ fun vs G1 H1 p r => ⟨p.old _ _ hk, q vs G1 H1 p r⟩⟩
end
section
variable {P : Program} {w : World} {K : PySem.W.Frag} {mg : Str → Option Value} {base : Heap} {x : Str} {ps N : List Str} {st : Stmt} {k : Nat} {f : Addr}
/-- a def with any promise -/
theorem has_ofG {sp : Sp} (a : At K mg x ps st f) (S : FnScope N ps (defScope st)) (hl : ∀ vs H Q E, sp vs H Q E → vs.length = ps.length)
    (hbody : ∀ (cdv : Value) (A : Around) (outer : List Env) (s : Shared) (H : Hp) (vs : List V) (Q : VK) (E : XK), Room k (A.deeper (envOfC x (defScope st) s.heap.objs.size f cdv)) →
      (∃ t, PSs (cxOf (L2.CX P w) P w K mg base N x (defScope st) f cdv A outer s H E) (defBody st) t ∧ (sp vs H Q E → t { nx := fun _ H' => Q .non H', rt := Q } (start N vs) H))) : Has P w K mg base x ps (k + 1) sp := by
  obtain ⟨fd, F, b⟩ := a.ex
  refine ⟨f, fd, a.g, F.kp, b, F.okX S hl (fun cdv A outer s H vs Q E hr h => ?_)⟩
  obtain ⟨t, h1, h2⟩ := hbody cdv A outer s H vs Q E hr
  exact ⟨t, h1, h2 h⟩
end
/-! ### a deed tried -/
/-- transparent: what the deed promises, its refusals told by name -/
def spT {K : PySem.W.Frag} {mg : Str → Option Value} (P : Program) (w : World) (base : Heap) (R : ErrTxt K mg) (k : Nat) : Sp := fun vs H Q E => ∃ f sp a xs, vs = [.ref f, .ref a] ∧ H a = some (.lst xs) ∧ (xs.length = 1 ∨ xs.length = 2) ∧ Fr_ P w K mg base k f sp ∧ FnH K H f ∧
  ∀ H1, Ex H H1 → sp xs H1 (fun v H' => ∀ H2, Ex H' H2 → Q v H2) fun cls d H' => ∃ i, i < 6 ∧ cls = .ref (R.c i) ∧ d = none ∧ ∀ H2, Ex H' H2 → Q (.str (errName i)) H2
section
variable {P : Program} {w : World} {K : PySem.W.Frag} {mg : Str → Option Value} {base : Heap} {R : ErrTxt K mg} {k : Nat} {σ : L2.St} {G : Hp} {tf tl : TE} {f : Addr} {rel : List PyData → Out → Prop} {ds : List PyData} {o : Out} {d : PyData}
/-- .. of a deed over data -/
theorem ed_tried (hf : EvD tf σ G (opq f)) (hl : EvD tl σ G (.list ds)) (hz : ds.length = 1 ∨ ds.length = 2) (F : Fr_ P w K mg base k f (spO rel)) (hk : PySem.W.keepIn K (.ref f) = true) (hr : rel ds o) (ht : Tried R o d) :
    EvD (tCall (spT P w base R k) [] E0 (tCons tf (tCons tl tNil))) σ G d := fun H x Q q =>
  hf H x _ fun v G1 H1 p r => (hl.mono p.ext) H1 p.sub _ fun u G2 H2 p2 r2 => by
    cases r
    cases r2 with
    | @lst a xs _ e b =>
      have pz := p.trans p2
      refine ⟨f, spO rel, a, xs, rfl, pz.sub _ _ e, by rw [b.len]; exact hz, F, .inl hk, fun H3 x3 => ⟨G2, ds, o, pz.sub.trans x3, b, hr, ?_⟩⟩
      cases o with
      | val y =>
        have e2 : d = y := ht
        subst e2
        exact fun v G' H' p4 r4 H5 x5 => q v G' H5 (((pz.on x3).trans p4).on x5) r4
      | err C =>
        obtain ⟨i, hi, hC, rfl⟩ := ht
        exact fun H' x4 => ⟨i, hi, by rw [hC], rfl, fun H5 x5 => q _ G2 H5 (pz.on (x3.trans (x4.trans x5))) (.str _)⟩
end
section
variable {K : PySem.W.Frag} {mg : Str → Option Value}
/-- as much as it promises, for whoever wants less -/
def upS (sp : Sp) : Sp := fun vs H Q E => ∃ (Q0 : VK) (E0 : XK), sp vs H Q0 E0 ∧ (∀ v H', Q0 v H' → Q v H') ∧ ∀ c d H', E0 c d H' → E c d H'
theorem fr_up {P : Program} {w : World} {base : Heap} {k : Nat} {f : Addr} {sp : Sp} (F : Fr_ P w K mg base k f sp) : Fr_ P w K mg base k f (upS sp) := fun A outer s H us vs Q E hr e0 r ⟨Q0, E0, h, h1, h2⟩ => by
  refine codeAny_mono (F A outer s H us vs Q0 E0 hr e0 r h) fun r s' hq => ?_
  cases r with
  | error e =>
    obtain ⟨a, B, H', cls, d, z1, z2, z3, z4, z5, z6, z7, z8⟩ := hq
    exact ⟨a, B, H', cls, d, z1, z2, z3, z4, z5, z6, z7, h2 _ _ _ z8⟩
  | ok fl =>
    cases fl with
    | ret u =>
      obtain ⟨v, H', z1, z2, z3, z4, z5, z6⟩ := hq
      exact ⟨v, H', z1, z2, z3, z4, z5, h1 _ _ z6⟩
    | next => exact hq
    | brk => exact hq
    | cont => exact hq
theorem Has.up {P : Program} {w : World} {base : Heap} {k : Nat} {x : Str} {ps : List Str} {sp : Sp} (h : Has P w K mg base x ps k sp) : Has P w K mg base x ps k (upS sp) := by
  obtain ⟨f, fd, h1, h2, h3, h4⟩ := h.ex
  refine ⟨f, fd, h1, h2, h3, ⟨fun vs H Q E ⟨Q0, E0, q, _⟩ => h4.len _ _ _ _ q, fun A outer s H args us vs Q E hr e0 hb r ⟨Q0, E0, q, k1, k2⟩ => ?_⟩⟩
  refine codeAny_mono (h4.run A outer s H args us vs Q0 E0 hr e0 hb r q) fun r s' hq => ?_
  cases r with
  | error e =>
    obtain ⟨a, B, H', cls, d, z1, z2, z3, z4, z5, z6, z7, z8⟩ := hq
    exact ⟨a, B, H', cls, d, z1, z2, z3, z4, z5, z6, z7, k2 _ _ _ z8⟩
  | ok fl =>
    cases fl with
    | ret u =>
      obtain ⟨v, H', z1, z2, z3, z4, z5, z6⟩ := hq
      exact ⟨v, H', z1, z2, z3, z4, z5, k1 _ _ z6⟩
    | next => exact hq
    | brk => exact hq
    | cont => exact hq
/-- the call in a try that keeps the error: its answer to slot i, an error to slot j by way of slot e -/
theorem d_tryP {R : ErrTxt K mg} {P : Program} {w : World} {base : Heap} {i j e n k : Nat} {tr : TA} {D : Ends} {σ : L2.St} {H : Hp} {f : Addr} {sp : Sp} {xs : List V} {Q : VK} {E : XK} (hf : σ[n]? = some (some (.ref f))) (F : Fr_ P w K mg base k f sp) (hk : FnH K H f)
    (h : ∀ Q : List V → Hp → Prop, (∀ H1, Ex H H1 → Q xs H1) → tr σ H Q) (hs : ∀ v : V, (σ.set e (some v))[e]? = some (some v)) (q : ∀ H1, Ex H H1 → sp xs H1 Q E) (k1 : ∀ v H', Q v H' → D.nx (σ.set i (some v)) H')
    (k2 : ∀ c d H', E c d H' → ∃ k, k < 6 ∧ c = .ref (R.c k) ∧ d = none ∧ ∀ a H2, Ex H' H2 → H2 a = some (LmExc.ErrO (R.c k) a) → D.nx (((σ.set e (some (.ref a))).set j (some (.ref a))).set e none) H2) :
    tAsg (tCallP P w K mg base k n (WE (LmExc.wHeld K (.ref R.M) e (fun _ => tAsg (tVar e) (gName j)) D)) tr) (gName i) D σ H := by
  refine ⟨f, upS sp, hf, fr_up F, ?_⟩
  have key : ∀ H1, Ex H H1 → upS sp xs H1 (fun v H' => gName i v σ H' D.nx) (WE (LmExc.wHeld K (.ref R.M) e (fun _ => tAsg (tVar e) (gName j)) D) σ) := fun H1 x1 => by
    refine ⟨Q, E, q H1 x1, k1, fun c d H' z => ?_⟩
    obtain ⟨k, hk, rfl, rfl, y⟩ := k2 c d H' z
    exact ⟨_, rfl, rfl, R.exm k hk, fun a ha => ⟨.ref a, hs _, y a _ (Ex.new ha) upd_same⟩⟩
  rcases hk with hk | ⟨Fn, hk⟩
  · exact .inl ⟨hk, h _ key⟩
  · exact .inr ⟨Fn, hk, h _ fun H1 x1 => ⟨x1 _ _ hk, key H1 x1⟩⟩
theorem tried_end {R : ErrTxt K mg} {P : Program} {w : World} {base : Heap} {k : Nat} {vs : List V} {H : Hp} {Q : VK} {E : XK} {N : List Str} (hN : start N vs = vs.map some ++ [none, none, none]) (h : spT P w base R k vs H Q E) :
    tSeq (tAsg (tC .non) (gName 2)) (tSeq (tAsg (tC .non) (gName 3)) (tSeq (fun D σ H => (fun W => tIfS (tTest (tOp (rEqD K) (tCB (rLenS K) (tCons (tVar 1) tNil)) (tC (.int 1))))
        (tAsg (tCallP P w K mg base k 0 (WE W) (tCons (tOp (rIxL K) (tVar 1) (tC (.int 0))) tNil)) (gName 2))
        (tAsg (tCallP P w K mg base k 0 (WE W) (tCons (tOp (rIxL K) (tVar 1) (tC (.int 0))) (tCons (tOp (rIxL K) (tVar 1) (tC (.int 1))) tNil))) (gName 2))) (LmExc.wHeld K (.ref R.M) 4 (fun _ => tAsg (tVar 4) (gName 3)) D) D σ H)
      (tSeq (tIfS (tTest (tOp rIsN (tVar 3) (tC .non))) (tRet (tVar 2)) tNext) (tRet (tCall (spH (rWord R)) [] E0 (tCons (tVar 3) tNil)))))) { nx := fun _ H' => Q .non H', rt := Q } (start N vs) H := by
  obtain ⟨f, sp, a, xs, rfl, ha, hl, F, hk, hsp⟩ := h
  rw [hN]
  refine d_asgS (Part.refl (Ex.refl H)) ed_non rfl fun H1 P1 x1 => ?_
  refine d_asgS P1 ed_non rfl fun H2 P2 x2 => ?_
  have x12 := x1.trans x2
  have ha2 := x12 _ _ ha
  have le : Ev (tCB (rLenS K) (tCons (tVar 1) tNil)) [some (.ref f), some (.ref a), some .non, some .non, none] H2 (.int (xs.length : Int)) := ev_len (ev_var rfl) (sq_of ha2)
  have lt := et_of' (ed_eq (K := K) (ofEv (d := .int (xs.length : Int)) le rfl) (ed_int (i := 1)) (shaped_int _) (shaped_int _))
  refine lt H2 (Ex.refl H2) _ fun H3 x3 => ?_
  have ha3 := x3 _ _ ha2
  have k1 : ∀ (v : V) (H' : Hp), (∀ H2, Ex H' H2 → Q v H2) → tSeq (tIfS (tTest (tOp rIsN (tVar 3) (tC .non))) (tRet (tVar 2)) tNext) (tRet (tCall (spH (rWord R)) [] E0 (tCons (tVar 3) tNil))) { nx := fun _ H' => Q .non H', rt := Q } [some (.ref f), some (.ref a), some v, some .non, none] H' := fun v H' q => by
    refine et_of' (ed_isN1 (d := .none) (ed_var rfl .non)) H' (Ex.refl H') _ fun H4 x4 => ?_
    exact ⟨v, rfl, q H4 x4⟩
  have k2 : ∀ (c : Value) (d : Option Addr) (H' : Hp), (∃ i, i < 6 ∧ c = .ref (R.c i) ∧ d = none ∧ ∀ H2, Ex H' H2 → Q (.str (errName i)) H2) → ∃ k, k < 6 ∧ c = .ref (R.c k) ∧ d = none ∧ ∀ b H2, Ex H' H2 → H2 b = some (LmExc.ErrO (R.c k) b) →
      tSeq (tIfS (tTest (tOp rIsN (tVar 3) (tC .non))) (tRet (tVar 2)) tNext) (tRet (tCall (spH (rWord R)) [] E0 (tCons (tVar 3) tNil))) { nx := fun _ H' => Q .non H', rt := Q } [some (.ref f), some (.ref a), some .non, some (.ref b), none] H2 := fun c d H' ⟨i, hi, hc, hd, q⟩ => by
    refine ⟨i, hi, hc, hd, fun b H4 x4 hb => ?_⟩
    refine et_of' (ed_isN1 (d := opq b) (ed_var rfl (.obj b))) H4 (Ex.refl H4) _ fun H5 x5 => ?_
    have ec : EvD (tCall (spH (rWord R)) [] E0 (tCons (tVar 3) tNil)) [some (.ref f), some (.ref a), some .non, some (.ref b), none] H5 (.str (errName i)) := ed_callH (ea_cons (ed_var rfl (.obj b)) ea_nil) fun G'' e'' => ⟨b, i, hi, rfl, e'' _ _ (x5 _ _ hb), rfl⟩
    exact (ec.ev rfl) H5 (Ex.refl H5) _ fun H6 x6 => q H6 (x4.trans (x5.trans x6))
  have ix : ∀ (j : Nat) (x : V), xs[j]? = some x → ∀ (H' : Hp), Ex H3 H' → ∀ Q : VK, (∀ H2, Ex H' H2 → Q x H2) → tOp (rIxL K) (tVar 1) (tC (.int (j : Int))) [some (.ref f), some (.ref a), some .non, some .non, none] H' Q := fun j x e H' x' Q q =>
    ⟨.ref a, rfl, ⟨a, xs, (j : Int), x, rfl, rfl, sq_of (x' _ _ ha3), atI_nat e, q H' (Ex.refl H')⟩⟩
  have sp3 : ∀ H', Ex H3 H' → sp xs H' (fun v H' => ∀ H2, Ex H' H2 → Q v H2) fun cls d H' => ∃ i, i < 6 ∧ cls = .ref (R.c i) ∧ d = none ∧ ∀ H2, Ex H' H2 → Q (.str (errName i)) H2 := fun H' x' => hsp H' (x12.trans (x3.trans x'))
  by_cases h1 : xs.length = 1
  · obtain ⟨y, rfl⟩ := List.length_eq_one_iff.mp h1
    have eb : PyData.eqv (.int (([y] : List V).length : Int)) (.int 1) = true := rfl
    rw [eb, if_pos rfl]
    exact d_tryP (R := R) rfl F (hk.up (x12.trans x3)) (fun Q q => ix 0 y rfl H3 (Ex.refl H3) _ fun H4 x4 => q H4 x4) (fun _ => rfl) sp3 k1 k2
  · have h2 : xs.length = 2 := hl.elim (fun z => absurd z h1) id
    obtain ⟨y, z, rfl⟩ : ∃ y z, xs = [y, z] := match xs, h2 with
      | [a, b], _ => ⟨a, b, rfl⟩
    have eb : PyData.eqv (.int (([y, z] : List V).length : Int)) (.int 1) = false := rfl
    rw [eb, if_neg (by decide)]
    exact d_tryP (R := R) rfl F (hk.up (x12.trans x3)) (fun Q q => ix 0 y rfl H3 (Ex.refl H3) _ fun H4 x4 => ix 1 z rfl H4 x4 _ fun H5 x5 => q H5 (x4.trans x5)) (fun _ => rfl) sp3 k1 k2
end
end Lm

set_option maxHeartbeats 2000000
/-! The parts that moves.py is made of; a new list handed on. -/
namespace Lm
open PySem PySem.Spec PyProof.Rows L2 Evl
def rMovesT : List PyData → Out → Prop := fun ds o => ∃ ns : List Int, ds = [.tuple (ns.map .int)] ∧ pileI ns = true ∧ ns.length ≤ 126 ∧ o = .val (.list ((movesI ns).map mvD))
def rFits : List PyData → Out → Prop := fun ds o => ∃ m, ds = [mvD m] ∧ o = .val (.bool (decide (topI m ≤ 99)))
def rBehind : List PyData → Out → Prop := fun ds o => ∃ (ns : List Int) (m : Bool × Int), ds = [.tuple (ns.map .int), mvD m] ∧ ns.length ≤ 1000 ∧ goA m ∈ ns ∧ goB m ∈ ns.erase (goA m) ∧ o = .val (.tuple ((afterI ns m).map .int))
section
variable {σ : L2.St} {G G0 H H0 : Hp} {tr : TA} {D : Ends} {d : PyData} {ds : List PyData} {E : XK} {r : List PyData → Out → Prop}
/-- return f(..), a new list -/
theorem d_retN (P : Part G0 H0 G H) (h : EdA tr σ G ds) (hr : r ds (.val d)) (q : WantN (.val d) G0 H0 D.rt E) : tRet (tCall (spN r) [] E tr) D σ H :=
  h H P.sub _ fun vs G1 H1 p rs => ⟨G1, ds, .val d, p.sub, by rw [List.append_nil]; exact rs, hr, fun a G' H' p2 rp n => q a G' H' (P.trans (p.trans p2)) rp (fresh_back (P.ext.trans p.ext) n)⟩
end
theorem known_str : LmType.Known "str" := by
  unfold LmType.Known
  simp
theorem tyD_str {d : PyData} (h : tyD d = some "str") : ∃ s, d = .str s := by
  cases d with
  | str s => exact ⟨s, rfl⟩
  | dict l => cases l <;> simp [tyD] at h
  | _ => simp [tyD] at h
theorem not_mv {a b : PyData} {S : String} (h : tyD a = some S) (n : S ≠ "str") : isMvD (.tuple [a, b]) = false := by
  cases a with
  | str s => exact absurd (Option.some.inj h).symm n
  | _ => rfl
theorem mv_tuple {d : PyData} {S : String} (h : tyD d = some S) (n : S ≠ "tuple") : isMvD d = false := by
  cases d with
  | tuple l => exact absurd (Option.some.inj h).symm n
  | _ => rfl
theorem mv_two {l : List PyData} (h : l.length ≠ 2) : isMvD (.tuple l) = false := by
  match l, h with
  | [], _ => rfl
  | [a], _ => cases a <;> rfl
  | [a, b], h => exact absurd rfl h
  | a :: b :: c :: r, _ => cases a <;> rfl
theorem not_le99 (k : Int) : (!decide (k ≤ 99)) = decide (99 < k) := by
  by_cases h : k ≤ 99
  · rw [decide_eq_true h, decide_eq_false (by omega)]; rfl
  · rw [decide_eq_false h, decide_eq_true (by omega)]; rfl
end Lm

set_option maxHeartbeats 2000000
/-! Marks taken out of a pile and put in. -/
namespace Lm
open PySem PySem.Spec PyProof.Rows L2 Evl
def offI (ns gone : List Int) : List Int := gone.foldl List.erase ns
def exchI (ns gone come : List Int) : List Int := srt (offI ns gone ++ come)
/-- they are there, one behind the other -/
def Gone (ns gone : List Int) : Prop := ∀ (i : Nat) (k : Int), gone[i]? = some k → k ∈ offI ns (gone.take i)
theorem off_snoc {ns gone : List Int} {i : Nat} {k : Int} (h : gone[i]? = some k) : offI ns (gone.take (i + 1)) = (offI ns (gone.take i)).erase k := by
  unfold offI
  rw [List.take_add_one, h, List.foldl_append]
  rfl
theorem off_len (ns : List Int) : ∀ gone : List Int, (offI ns gone).length ≤ ns.length := fun gone => by
  induction gone generalizing ns with
  | nil => exact Nat.le_refl _
  | cons g gone ih => exact Nat.le_trans (ih (ns.erase g)) (erase_len ns g)
theorem gone_one {ns : List Int} {a : Int} (h : a ∈ ns) : Gone ns [a] := fun i k e => by
  match i, e with
  | 0, e =>
    cases e
    exact h
  | i + 1, e => simp at e
theorem gone_two {ns : List Int} {a b : Int} (h : a ∈ ns) (h2 : b ∈ ns.erase a) : Gone ns [a, b] := fun i k e => by
  match i, e with
  | 0, e =>
    cases e
    exact h
  | 1, e =>
    cases e
    exact h2
  | i + 2, e => simp at e
def rExch : List PyData → Out → Prop := fun ds o => ∃ ns gone come : List Int, ds = [.tuple (ns.map .int), .list (gone.map .int), .list (come.map .int)] ∧ ns.length ≤ 1000 ∧ come.length ≤ 1000 ∧ Gone ns gone ∧ o = .val (.tuple ((exchI ns gone come).map .int))
end Lm

set_option maxHeartbeats 2000000
/-! A list of one's own, of any data; walks of a script; ranges down. -/
namespace Lm
open PySem PySem.Spec PyProof.Rows L2 Evl
section
variable {K : PySem.W.Frag} {σ : L2.St} {G G0 H H0 : Hp} {ta tb tc te : TE} {tr : TA} {D : Ends} {tu tz : TS} {d : PyData} {ds es : List PyData} {ns : List Int}
theorem ed_iI {C : Int → Int → Prop} {g : Int → Int → Int} {i j : Int} (h : EvD ta σ G (.int i)) (k : EvD tb σ G (.int j)) (c : C i j) : EvD (tOp (rI C fun i j => .int (g i j)) ta tb) σ G (.int (g i j)) := ed_iC h k c rfl
theorem ed_0I {g : Int → Int → Int} {i j : Int} (h : EvD ta σ G (.int i)) (k : EvD tb σ G (.int j)) : EvD (tOp (rI0 fun i j => .int (g i j)) ta tb) σ G (.int (g i j)) := ed_i0 h k rfl
theorem ed_0B {g : Int → Int → Bool} {i j : Int} (h : EvD ta σ G (.int i)) (k : EvD tb σ G (.int j)) : EvD (tOp (rI0 fun i j => .bl (g i j)) ta tb) σ G (.bool (g i j)) := ed_i0 h k rfl
/-- x = [e, ..]: a list of one's own -/
theorem d_newL {i : Nat} (P : Part G0 H0 G H) (h : EdA tr σ G ds) (hl : ds.length ≤ 100000) (k : ∀ l xs G' H', Part G0 H0 G' H' → Ex G G' → RpA G' xs ds → H' l = some (.lst xs) → G' l = none → H0 l = none → tz D (σ.set i (some (.ref l))) H') :
    tSeq (tAsg (tLst tr) (gName i)) tz D σ H := h H P.sub _ fun xs G1 H1 p r => by
  refine ⟨by rw [r.len]; exact sz_of hl, fun l n => ?_⟩
  have pz := P.trans p
  exact k l xs G1 _ (pz.on (Ex.new n)) p.ext r upd_same (fresh_back pz.sub n) (fresh_back pz.old n)
/-- .. where the step's own part is told -/
theorem d_asgP {i : Nat} (P : Part G0 H0 G H) (h : EvD te σ G d) (k : ∀ v G' H', Part G H G' H' → Rp G' v d → tz D (σ.set i (some v)) H') : tSeq (tAsg te (gName i)) tz D σ H :=
  h H P.sub _ fun v G' H' p r => k v G' H' p r
theorem d_asg1S {v : V} {i : Nat} (P : Part G0 H0 G H) (h : EvD te σ G d) (e : sc d = some v) (k : ∀ H', Part G0 H0 G H' → Ex H H' → D.nx (σ.set i (some v)) H') : tAsg te (gName i) D σ H :=
  (h.ev e) H P.sub _ fun H' x => k H' (P.on x) x
/-- x.append(e) -/
theorem s_appD {l : Addr} {xs : List V} (P : Part G0 H0 G H) (gl : G l = none) (h0 : H0 l = none) (hl : H l = some (.lst xs)) (ha : Ev ta σ H (.ref l)) (h : EvD te σ G d) (hz : xs.length < 100000)
    (q : ∀ v G' H', Part G0 H0 G' H' → Ex G G' → Rp G' v d → G' l = none → H' l = some (.lst (xs ++ [v])) → D.nx σ H') : tDrop (tBM K "list" rAppend ta (tCons te tNil)) D σ H := ha H (Ex.refl H) _ fun H1 e1 => by
  refine ⟨Or.inl ⟨rfl, xs, sq_of (e1 l _ hl)⟩, h H1 (P.sub.trans e1) _ fun v G2 H2 p2 r2 => ⟨l, xs, v, rfl, rfl, p2.old _ _ (e1 l _ hl), sz_lt hz, ?_⟩⟩
  have pz : Part G0 H0 G2 H2 := (P.on e1).trans p2
  have g2 : G2 l = none := p2.off gl (e1 l _ hl)
  exact q v G2 _ (pz.mut g2 h0) p2.ext r2 g2 upd_same
/-- enumerate of a list that is only read -/
theorem ei_enumS {a : Addr} (h : Ev te σ G (.ref a)) (hS : SqL K G a (ns.map V.int)) : EvI (iEnum K (tCons te tNil)) σ G (enD (ns.map .int)) := fun H x R q => h H x _ fun H1 x1 =>
  ⟨a, _, rfl, ex_l (x.trans x1) hS, q _ G H1 ((Part.refl x).on x1) (enum_walk (fun H k => ex_l k hS) (RpA.ofInts ns))⟩
theorem ei_rng3 {i j : Int} (h : EvD ta σ G (.int i)) (k : EvD tb σ G (.int j)) (l : EvD tc σ G (.int (-1))) (c : -(2 ^ 62) ≤ i ∧ i < 2 ^ 62 ∧ -(2 ^ 62) ≤ j ∧ j < 2 ^ 62) (e : i = ((i - j).toNat : Nat) - 1) : EvI (iRng3 (tCons ta (tCons tb (tCons tc tNil)))) σ G (rvD (i - j).toNat) := fun H x R q =>
  h H x _ fun v G1 H1 p r => (k.mono p.ext) H1 p.sub _ fun w G2 H2 p2 r2 => (l.mono (p.ext.trans p2.ext)) H2 p2.sub _ fun u G3 H3 p3 r3 => by
    cases r
    cases r2
    cases r3
    refine ⟨i, j, -1, _, rfl, RgC.neg c.1 c.2.1 c.2.2.1 c.2.2.2, q _ G3 H3 (p.trans (p2.trans p3)) ?_⟩
    rw [rvD_len]
    refine ⟨fun i H hi _ => hi, fun H _ => Nat.le_refl _, fun m H y H' hi _ hy Gc c1 c2 => ?_⟩
    obtain ⟨rfl, rfl⟩ := hy
    refine ⟨Gc, _, Part.refl c2, rvD_at hi, ?_⟩
    rw [show i + (m : Int) * -1 = (((i - j).toNat : Nat) : Int) - 1 - (m : Int) by omega]
    exact .int _
/-- a name op= a number -/
theorem d_augI {i : Nat} {f : Int → Int → Int} {a b : Int} (P : Part G0 H0 G H) (hx : σ[i]? = some (some (.int a))) (h : EvD te σ G (.int b)) (k : ∀ H', Part G0 H0 G H' → Ex H H' → tz D (σ.set i (some (.int (f a b)))) H') : tSeq (tAug i te (ipI f)) tz D σ H :=
  ⟨_, hx, (h.ev rfl) H P.sub _ fun H1 x1 => ⟨a, b, rfl, rfl, k H1 (P.on x1) x1⟩⟩
theorem d_augI1 {i : Nat} {f : Int → Int → Int} {a b : Int} (P : Part G0 H0 G H) (hx : σ[i]? = some (some (.int a))) (h : EvD te σ G (.int b)) (k : ∀ H', Part G0 H0 G H' → Ex H H' → D.nx (σ.set i (some (.int (f a b)))) H') : tAug i te (ipI f) D σ H :=
  ⟨_, hx, (h.ev rfl) H P.sub _ fun H1 x1 => ⟨a, b, rfl, rfl, k H1 (P.on x1) x1⟩⟩
end
end Lm

set_option maxHeartbeats 2000000
/-! Rows of numbers. -/
namespace Lm
open PySem PySem.Spec PyProof.Rows L2 Evl
def fpI : Nat → Int × Int
  | 0 => (1, 2)
  | k + 1 => ((fpI k).2, (fpI k).1 + (fpI k).2)
theorem fp_eq : ∀ k : Nat, fpI k = (fw k, fw (k + 1))
  | 0 => rfl
  | k + 1 => by
    show ((fpI k).2, (fpI k).1 + (fpI k).2) = (fw (k + 1), fw (k + 2))
    rw [fp_eq k, fw_two]
theorem fw100 : fw 100 = 927372692193078999176 := by
  have h : (fpI 100).1 = 927372692193078999176 := by decide +kernel
  rw [fp_eq] at h
  exact h
/-- the greedy way, turn by turn -/
theorem grd_turn (k : Nat) (n : Int) : grd (k + 1) n = if fw k ≤ n then (k : Int) :: grd k (n - fw k) else grd k n := rfl
theorem grd_rows (n : Int) : (grd 100 n).reverse = rowI n := rfl
theorem grd_len : ∀ (k : Nat) (n : Int), (grd k n).length ≤ k
  | 0, _ => Nat.le_refl 0
  | k + 1, n => by
    rw [grd_turn]
    split
    · have := grd_len k (n - fw k)
      rw [List.length_cons]
      omega
    · have := grd_len k n
      omega
theorem row_len (n : Int) : (rowI n).length ≤ 100 := by
  unfold rowI
  rw [List.length_reverse]
  exact grd_len 100 n
/-- the greedy way goes down -/
theorem grd_down : ∀ (k : Nat) (n : Int), (grd k n).Pairwise fun a b => b < a
  | 0, _ => .nil
  | k + 1, n => by
    rw [grd_turn]
    split
    · exact List.pairwise_cons.mpr ⟨fun x hx => by have := grd_below x hx; omega, grd_down k _⟩
    · exact grd_down k n
theorem row_rise (n : Int) : (rowI n).Pairwise (· ≤ ·) := by
  unfold rowI
  rw [List.pairwise_reverse]
  exact (grd_down 100 n).imp fun h => Int.le_of_lt h
theorem row_srt (n : Int) : srt (grd 100 n) = rowI n := (srt_one (List.reverse_perm _) (row_rise n)).symm
def rLRow : List PyData → Out → Prop := fun ds o => ∃ n : Int, ds = [.int n] ∧ o = .val (.tuple ((rowI n).map .int))
/-- what row_of tells -/
def rowO (C1 C3 : Addr) : PyData → Out
  | .int n => if n < 0 then .err C1 else if fw 100 ≤ n then .err C3 else .val (.tuple ((rowI n).map .int))
  | _ => .err C1
def rRowOf (C1 C3 : Addr) : List PyData → Out → Prop := fun ds o => ∃ d, ds = [d] ∧ (tyD d).isSome = true ∧ o = rowO C1 C3 d
def rNumberOf (C1 : Addr) : List PyData → Out → Prop := fun ds o => ∃ d, ds = [d] ∧ plainD d = true ∧ o = if isRowD d = true then .val (.int (worthD d)) else .err C1
theorem row_isRow {n : Int} (h : n < fw 100) : isRowD (.tuple ((rowI n).map .int)) = true := by
  rw [isRow_ints, loose_pile (row_loose h) row_in (by have := row_len n; omega), loose_near.mp (row_loose h)]
  rfl
theorem isRow_pile {d : PyData} (h : isRowD d = true) : isPileD d = true := by
  unfold isRowD at h
  rw [Bool.and_eq_true] at h
  exact h.1
def numI (n : Int) : Int := if n % 4 = 0 then n / 4 % 300 else if n % 4 = 1 then fw (n / 4 % 101).toNat + n / 404 % 5 - 2 else n / 4 * 48271 * 48271 % (if n % 4 % 2 = 0 then 10 ^ 21 else 10 ^ 12)
def rLNum : List PyData → Out → Prop := fun ds o => ∃ n : Int, ds = [.int n] ∧ 0 ≤ n ∧ n < 2 ^ 40 ∧ o = .val (.int (numI n))
def rLGoodN : List PyData → Out → Prop := fun ds o => ∃ n : Int, ds = [.int n] ∧ o = .val (.bool true)
/-- what row_of tells when tried -/
def rowT (n : Int) : PyData := if n < 0 then .str "NoRow" else if fw 100 ≤ n then .str "TooGreat" else .tuple ((rowI n).map .int)
theorem row_tried {K : PySem.W.Frag} {mg : Str → Option Value} (R : ErrTxt K mg) (n : Int) : Tried R (rowO (R.c 1) (R.c 3) (.int n)) (rowT n) := by
  show Tried R (if n < 0 then .err (R.c 1) else if fw 100 ≤ n then .err (R.c 3) else .val (.tuple ((rowI n).map .int))) (rowT n)
  unfold rowT
  split
  · exact ⟨1, by decide, rfl, rfl⟩
  · split
    · exact ⟨3, by decide, rfl, rfl⟩
    · exact rfl
theorem eqv_intI (i j : Int) : PyData.eqv (.int i) (.int j) = decide (i = j) := by simp [PyData.eqv]; exact Bool.eq_iff_iff.mpr (by rw [beq_iff_eq, decide_eq_true_eq])
end Lm

set_option maxHeartbeats 2000000
/-! Defs that are made while running, handed out and called elsewhere: their cells are known from then on. -/
namespace Lm
open PySem PySem.Spec PyProof.Rows L2 Evl NdefX LamX
/-- a cell that holds v -/
def CellO (c : Addr) (v : V) : HO := .ext fun h => ∃ u, RelV v u ∧ h.IsCell c (some u)
theorem cellO_ok {P : Program} {w : World} {H : Hp} {h : Heap} {c : Addr} {v : V} {u : Value} (r : RelV v u) (e : h.IsCell c (some u)) : ObjOk P w H h c (CellO c v) := by
  refine ⟨⟨u, r, e⟩, ?_, fun h1 h2 ⟨u, r, o, e1, e2⟩ k => ⟨u, r, o, k o e1, e2⟩⟩
  obtain ⟨o, e1, _⟩ := e
  exact ⟨o, e1⟩
theorem cellO_at {P : Program} {w : World} {H : Hp} {h : Heap} {c : Addr} {v : V} (hok : HOk P w H h) (e : H c = some (CellO c v)) : ∃ u, RelV v u ∧ h.IsCell c (some u) := (hok c _ e).1
/-- the function F at f, its cells' contents ws (fr: their names in order) -/
structure CloAt (H : Hp) (f : Addr) (F : NF) (fr : List Str) (ws : List V) : Prop where
  fn : H f = some (FnO f F)
  co : H F.c = some (CodeO F.c F.qual)
  len : ws.length = fr.length
  inj : ∀ x y c, F.cl.lookup x = some c → F.cl.lookup y = some c → x = y
  all : ∀ y c, F.cl.lookup y = some c → ∃ v, H c = some (CellO c v)
  has : ∀ (i : Nat) (y : Str), fr[i]? = some y → ∃ c v, F.cl.lookup y = some c ∧ ws[i]? = some v ∧ H c = some (CellO c v)
theorem CloAt.up {H H' : Hp} {f : Addr} {F : NF} {fr : List Str} {ws : List V} (h : CloAt H f F fr ws) (e : Ex H H') : CloAt H' f F fr ws :=
  ⟨e _ _ h.fn, e _ _ h.co, h.len, h.inj, fun y c q => let ⟨v, z⟩ := h.all y c q; ⟨v, e _ _ z⟩, fun i y q => let ⟨c, v, a, b, z⟩ := h.has i y q; ⟨c, v, a, b, e _ _ z⟩⟩
/-- one of F's cells -/
def IsCl (F : NF) (a : Addr) : Prop := ∃ y, F.cl.lookup y = some a
open Classical in
/-- without F's cells -/
noncomputable def less (H : Hp) (F : NF) : Hp := fun a => if IsCl F a then none else H a
open Classical in
/-- with F's cells as they were -/
noncomputable def back (H : Hp) (F : NF) (H' : Hp) : Hp := fun a => if IsCl F a then H a else H' a
theorem less_in {H : Hp} {F : NF} {a : Addr} (h : IsCl F a) : less H F a = none := by
  unfold less
  rw [if_pos h]
theorem less_out {H : Hp} {F : NF} {a : Addr} (h : ¬ IsCl F a) : less H F a = H a := by
  unfold less
  rw [if_neg h]
theorem back_in {H H' : Hp} {F : NF} {a : Addr} (h : IsCl F a) : back H F H' a = H a := by
  unfold back
  rw [if_pos h]
theorem back_out {H H' : Hp} {F : NF} {a : Addr} (h : ¬ IsCl F a) : back H F H' a = H' a := by
  unfold back
  rw [if_neg h]
theorem less_ex {H : Hp} {F : NF} : Ex (less H F) H := fun a o e => by
  by_cases h : IsCl F a
  · rw [less_in h] at e
    cases e
  · rw [less_out h] at e
    exact e
/-- its promise, where the cells are known: sp of their contents, over the heap without them -/
def spC (f : Addr) (F : NF) (fr : List Str) (sp : List (Option V) → Sp) : Sp := fun vs H Q _ => ∃ ws, CloAt H f F fr ws ∧ sp (ws.map some) vs (less H F) (fun v H' => (∀ a, IsCl F a → H' a = none) → Q v (back H F H')) E0
section
variable {P : Program} {w : World} {K : PySem.W.Frag} {mg : Str → Option Value} {base : Heap} {ps fr : List Str} {F : NF} {f : Addr} {k : Nat} {sp : List (Option V) → Sp}
theorem clo_cell {H : Hp} {ws : List V} (C : CloAt H f F fr ws) {a : Addr} (h : IsCl F a) : ∃ v, H a = some (CellO a v) := by
  obtain ⟨y, e⟩ := h
  exact C.all y a e
/-- a function that was made, called where its cells are known -/
theorem clo_fr (N : NOk P w K mg base (L2.CX P w) k f F ps fr sp) : Fr_ P w K mg base k f (spC f F fr sp) := by
  intro A outer s H us vs Q E hr e0 r hsp
  obtain ⟨ws, C, hsp⟩ := hsp
  have nown : ∀ {a : Addr} {x : Addr}, H a = some (.own x) → ¬ IsCl F a := fun {a x} e h => by
    obtain ⟨v, z⟩ := clo_cell C h
    rw [e] at z
    cases z
  have ntup : ∀ {a : Addr} {x : List V}, H a = some (.tup x) → ¬ IsCl F a := fun {a x} e h => by
    obtain ⟨v, z⟩ := clo_cell C h
    rw [e] at z
    cases z
  have hok0 : HOk P w (less H F) s.heap := fun b u e => by
    by_cases h : IsCl F b
    · rw [less_in h] at e
      cases e
    · rw [less_out h] at e
      exact (e0.hok b u e).stay (fun c v _ q => q) (fun c q => by rw [less_out (nown q)]; exact q) fun c xs q => by rw [less_out (ntup q)]; exact q
  have none0 : ∀ {b : Addr}, H b = none → less H F b = none := fun {b} e => by
    by_cases h : IsCl F b
    · exact less_in h
    · rw [less_out h]
      exact e
  have e00 : Env0 P w K mg base A outer s (less H F) := ⟨e0.frames, e0.mod, fun b o e => ⟨(e0.bs b o e).1, none0 (e0.bs b o e).2⟩, e0.bsz, e0.funs, fun b hb => none0 (e0.frf b hb), hok0, e0.bare⟩
  have nfn : ¬ IsCl F f := fun h => by
    obtain ⟨v, z⟩ := clo_cell C h
    obtain ⟨u, _, o, e1, e2⟩ := cellO_at e0.hok z
    obtain ⟨od, sl, doc, pm, ctv, ho⟩ := fnO_at e0.hok C.fn
    rw [ho] at e1
    cases e1
    cases e2
  have nco : ¬ IsCl F F.c := fun h => by
    obtain ⟨v, z⟩ := clo_cell C h
    obtain ⟨u, _, o, e1, e2⟩ := cellO_at e0.hok z
    obtain ⟨⟨oc, vs, t, h1, h2, h3⟩, _, _⟩ := e0.hok _ _ C.co
    rw [h1] at e1
    cases e1
    rw [h2] at e2
    cases e2
  have cells : CellsAt F.cl fr (ws.map some) s.heap (less H F) := by
    refine ⟨by rw [List.length_map]; exact C.len, fun y c e => ⟨less_in ⟨y, e⟩, ?_⟩, C.inj, fun i y e => ?_⟩
    · obtain ⟨v, z⟩ := C.all y c e
      obtain ⟨u, _, q⟩ := cellO_at e0.hok z
      exact ⟨_, q⟩
    · obtain ⟨c, v, h1, h2, h3⟩ := C.has i y e
      refine ⟨c, h1, fun v' ev => ?_⟩
      rw [List.getElem?_map, h2] at ev
      cases ev
      exact cellO_at e0.hok h3
  refine codeAny_mono (N.run A outer s (less H F) us vs (ws.map some) _ E0 hr e00 (by rw [less_out nfn]; exact C.fn) (by rw [less_out nco]; exact C.co) cells r hsp) fun res s' hq => ?_
  cases res with
  | error e =>
    obtain ⟨_, _, _, _, _, _, _, _, _, _, _, _, z⟩ := hq
    exact z.elim
  | ok fl =>
    cases fl with
    | next => exact hq
    | brk => exact hq
    | cont => exact hq
    | ret u =>
      obtain ⟨v, H', os, bare, un, hok, rv, q⟩ := hq
      have cz : ∀ {a : Addr}, IsCl F a → ∃ o, s.heap.get? a = some o ∧ less H F a = none ∧ a ∉ frs outer := fun {a} h => by
        obtain ⟨v, z⟩ := clo_cell C h
        obtain ⟨u, _, o, e1, e2⟩ := cellO_at e0.hok z
        exact ⟨o, e1, less_in h, fun hm => by rw [e0.frf a hm] at z; cases z⟩
      have free : ∀ {a : Addr}, IsCl F a → H' a = none := fun {a} h => by
        obtain ⟨o, h1, h2, h3⟩ := cz h
        exact un.free a o h1 h2 (by simp)
      refine ⟨v, back H F H', os, bare, ⟨fun b o e n hb hx => un.keep b o e (none0 n) hb hx, fun b o e n hb hx => un.slot b o e (none0 n) hb hx, fun b o e n hx => ?_, un.there, fun b xs e => ?_, fun b o u e => ?_, fun b ps e => ?_⟩, fun b o e => ?_, rv, q fun a h => free h⟩
      · by_cases h : IsCl F b
        · rw [back_in h]
          exact n
        · rw [back_out h]
          exact un.free b o e (none0 n) hx
      · have h := ntup e
        rw [back_out h]
        exact un.tups b xs (by rw [less_out h]; exact e)
      · have h : ¬ IsCl F b := fun h => by
          obtain ⟨v, z⟩ := clo_cell C h
          rw [e] at z
          cases z
        rw [back_out h]
        exact un.frzs b o u (by rw [less_out h]; exact e)
      · have h : ¬ IsCl F b := fun h => by
          obtain ⟨v, z⟩ := clo_cell C h
          rw [e] at z
          cases z
        rw [back_out h]
        exact un.tbls b ps (by rw [less_out h]; exact e)
      · by_cases h : IsCl F b
        · rw [back_in h] at e
          obtain ⟨v, z⟩ := clo_cell C h
          rw [e] at z
          cases z
          obtain ⟨u, ru, o, e1, e2⟩ := cellO_at e0.hok e
          obtain ⟨o2, h1, h2, h3⟩ := cz h
          rw [e1] at h1
          cases h1
          exact cellO_ok ru ⟨o, un.keep b o e1 h2 h3 (by simp), e2⟩
        · rw [back_out h] at e
          refine (hok b o e).stay (fun c v _ q => q) (fun c q => ?_) fun c xs q => ?_
          · rw [back_out (fun z => by rw [free z] at q; cases q)]
            exact q
          · rw [back_out (fun z => by rw [free z] at q; cases q)]
            exact q
end
/-! ### a def that hands such a function out -/
/-- a block's end by return, the slots told too -/
def SPR (X : Cx) (pins : List (Addr × Obj)) (R : V → L2.St → Hp → Prop) (f : Flow) (s' : Shared) : Prop := match f with
  | .ret u => ∃ v σ' H', Inv X pins σ' H' s' ∧ RelV v u ∧ R v σ' H'
  | _ => False
structure PSR (X : Cx) (st : List Stmt) (t : (V → L2.St → Hp → Prop) → L2.St → Hp → Prop) : Prop where
  run : ∀ (pins : List (Addr × Obj)) (s : Shared) (σ : L2.St) (H : Hp) (R : V → L2.St → Hp → Prop), Inv X pins σ H s → t R σ H → wpAny (model X.prog X.w) X.A (execs st X.env) (SPR X pins R) X.xe s
section
variable {X : Cx} {st : Stmt} {rest : List Stmt} {t : TS} {u : (V → L2.St → Hp → Prop) → L2.St → Hp → Prop} {e : Expr} {te : TE} {pos : Pos}
def noE (nx : L2.St → Hp → Prop) : Ends := { nx := nx, rt := fun _ _ => False, bk := fun _ _ => False, ct := fun _ _ => False }
theorem psr_cons (h1 : PS X st t) (h2 : PSR X rest u) : PSR X (st :: rest) (fun R σ H => t (noE (u R)) σ H) := by
  refine ⟨fun pins s σ H R I h => ?_⟩
  refine wpAny_execs_cons (thn (h1.run pins s σ H (noE (u R)) I h) fun f s1 q => ?_)
  cases f with
  | next =>
    obtain ⟨σ', H', I', q⟩ := q
    exact h2.run pins s1 σ' H' R I' q
  | ret v =>
    obtain ⟨_, _, _, _, _, z⟩ := q
    exact z.elim
  | brk =>
    obtain ⟨_, _, _, z⟩ := q
    exact z.elim
  | cont =>
    obtain ⟨_, _, _, z⟩ := q
    exact z.elim
theorem psr_ret (he : PE X e te) : PSR X [.Return (some e) pos] (fun R σ H => te σ H fun v H' => R v σ H') := by
  refine ⟨fun pins s σ H R I h => ?_⟩
  refine wpAny_execs_cons (wpAny_Return_some (thn (he.run pins s σ H _ I h) fun v s1 ⟨x, H1, I1, r1, q1⟩ => ⟨x, σ, H1, I1, r1, q1⟩))
end
/-- from now on the frame's cells are known -/
structure Tracks (X : Cx) (σ : L2.St) (H' H2 : Hp) : Prop where
  off : ∀ a, (∀ y, X.env.cells.lookup y ≠ some a) → H2 a = H' a
  none : ∀ y a, X.env.cells.lookup y = some a → H' a = none
  inj : ∀ x y c, X.env.cells.lookup x = some c → X.env.cells.lookup y = some c → x = y
  has : ∀ y, (X.env.kindOf y = some .cell ∨ X.env.kindOf y = some .free) → ∃ c, X.env.cells.lookup y = some c
  at_ : ∀ (i : Nat) (y : Str) (v : V), X.N[i]? = some y → σ[i]? = some (some v) → X.env.scope.names.lookup y = some .cell → ∃ c, X.env.cells.lookup y = some c ∧ H2 c = some (CellO c v)
theorem Tracks.ex {X : Cx} {σ : L2.St} {H' H2 : Hp} (t : Tracks X σ H' H2) : Ex H' H2 := fun a o e => by
  by_cases h : ∃ y, X.env.cells.lookup y = some a
  · obtain ⟨y, h⟩ := h
    rw [t.none y a h] at e
    cases e
  · rw [t.off a fun y z => h ⟨y, z⟩]
    exact e
section
variable {P : Program} {w : World} {K : PySem.W.Frag} {mg : Str → Option Value} {base : Heap}
open Classical in
theorem fun_okC {x qual : Str} {st : Stmt} {f : Addr} {fd : FuncData} {N ps : List Str} {k : Nat} {sp : Sp} (F : Fun K x qual st f fd) (S : FnScope N ps (defScope st)) (len : ∀ vs H Q E, sp vs H Q E → vs.length = ps.length)
    (hbody : ∀ (cdv : Value) (A : Around) (outer : List Env) (s : Shared) (H : Hp) (vs : List V) (Q : VK) (E : XK), cdv = fd.code → Room k (A.deeper (envOfC qual (defScope st) s.heap.objs.size f cdv)) → sp vs H Q E →
      ∃ t, PSR (cxOf (L2.CX P w) P w K mg base N qual (defScope st) f cdv A outer s H E) (defBody st) t ∧
        t (fun v σ H' => ∀ H2, Tracks (cxOf (L2.CX P w) P w K mg base N qual (defScope st) f cdv A outer s H E) σ H' H2 → Q v H2) (start N vs) H) : FnOk P w K mg base (L2.CX P w) (k + 1) f fd ps sp := by
  obtain ⟨oc, od, kV, doc, pm, an, cdv, ct, osl, rfl, lk, hcd⟩ := F.ex
  refine ⟨len, fun A outer s H args us vs Q E hr e0 hb r hsp => ?_⟩
  have hl := len _ _ _ _ hsp
  have KX : K.In s.heap := e0.mod.kin.keeps fun b o e => (e0.bs b o e).1
  have lim : s.heap.NoLimit := e0.mod.nolimit.keeps fun b o e => (e0.bs b o e).1
  have hkind : ∀ y ∈ ps.zip us, (defScope st).names.lookup y.1 = some .local ∨ ((defScope st).names.lookup y.1 = some .cell ∧ ((cellsFrom (s.heap.objs.size + 1) (defScope st).names []).lookup y.1).isSome = true) := fun ⟨n, v⟩ hy => by
    rcases S.par n (List.of_mem_zip hy).1 with q | q
    · exact .inl q
    · exact .inr ⟨q, PySem.W.cellsFrom_some _ _ _ (.inl q)⟩
  refine codeAny_call_function hr.depth (KX _ _ lk) rfl S.co S.gen rfl (PySem.W.codeRec_of KX hcd) (hb _ _ _ _ ?_)
  refine wpAny_newFunctionEnv_cells S.kind hkind fun env he s1 x => ?_
  subst he
  refine ⟨lim.keeps x.toInCall.keep, codeAny_func ?_⟩
  obtain ⟨t, ht, hq⟩ := hbody cdv A outer s H vs Q E rfl (hr.deeper _) hsp
  have I : Inv (cxOf (L2.CX P w) P w K mg base N qual (defScope st) f cdv A outer s H E) [] (start N vs) H s1 := inv_start S hr.hd e0 hl r x
  refine wpAny_mono (ht.run [] s1 (start N vs) H _ I hq) (fun fl s' hs => ?_) fun e s' hs => hs
  cases fl with
  | next => exact hs.elim
  | brk => exact hs.elim
  | cont => exact hs.elim
  | ret u =>
    obtain ⟨v, σ', H', J, rv, q⟩ := hs
    let X := cxOf (L2.CX P w) P w K mg base N qual (defScope st) f cdv A outer s H E
    let H2 : Hp := fun a => if h : ∃ v : V, ∃ (i : Nat) (y : Str), X.N[i]? = some y ∧ σ'[i]? = some (some v) ∧ X.env.scope.names.lookup y = some .cell ∧ X.env.cells.lookup y = some a then some (CellO a h.choose) else H' a
    have fresh : ∀ y a, X.env.cells.lookup y = some a → s.heap.objs.size ≤ a := fun y a e => J.ok.cab y a rfl e
    have off : ∀ a, (∀ y, X.env.cells.lookup y ≠ some a) → H2 a = H' a := fun a h => dif_neg fun ⟨v, i, y, _, _, _, e⟩ => h y e
    obtain ⟨m, hn, hl2⟩ := J.loc
    have val : ∀ {a : Addr} {v : V}, (∃ (i : Nat) (y : Str), X.N[i]? = some y ∧ σ'[i]? = some (some v) ∧ X.env.scope.names.lookup y = some .cell ∧ X.env.cells.lookup y = some a) → ∃ u, RelV v u ∧ s'.heap.IsCell a (some u) := fun {a v} ⟨i, y, h1, h2, h3, h4⟩ => by
      obtain ⟨u, ru, l⟩ := hl2 i y v h1 h2 (.inr (.inl h3))
      rcases l with ⟨z, _⟩ | ⟨_, c, hc, hcell⟩
      · have z' : X.env.scope.names.lookup y = some .local := z
        rw [h3] at z'
        cases z'
      · rw [h4] at hc
        cases hc
        exact ⟨u, ru, hcell⟩
    have lt : ∀ {b : Addr} {o : Obj}, s.heap.get? b = some o → ∀ y, X.env.cells.lookup y ≠ some b := fun {b o} e y z => by
      exact absurd (Nat.lt_of_lt_of_le (Heap.lt_size e) (fresh y b z)) (Nat.lt_irrefl _)
    have htr : Tracks X σ' H' H2 := by
      refine ⟨off, fun y a e => J.freeC y a e, J.ok.inj, J.ok.has, fun i y v h1 h2 h3 => ?_⟩
      obtain ⟨c, hc⟩ := J.ok.has y (.inl h3)
      refine ⟨c, hc, ?_⟩
      have hex : ∃ v : V, ∃ (i : Nat) (y : Str), X.N[i]? = some y ∧ σ'[i]? = some (some v) ∧ X.env.scope.names.lookup y = some .cell ∧ X.env.cells.lookup y = some c := ⟨v, i, y, h1, h2, h3, hc⟩
      have e2 : H2 c = some (CellO c hex.choose) := dif_pos hex
      have e3 : hex.choose = v := by
        obtain ⟨j, z, g1, g2, g3, g4⟩ := hex.choose_spec
        have ey : z = y := J.ok.inj z y c g4 hc
        subst ey
        have ij : j = i := by
          have hi := (List.getElem?_eq_some_iff.mp g1)
          have hj := (List.getElem?_eq_some_iff.mp h1)
          obtain ⟨l1, e1⟩ := hi
          obtain ⟨l2, e2⟩ := hj
          have pw := List.pairwise_iff_getElem.mp S.nd
          rcases Nat.lt_trichotomy j i with z | z | z
          · exact absurd (e1.trans e2.symm) (pw j i l1 l2 z)
          · exact z
          · exact absurd (e2.trans e1.symm) (pw i j l2 l1 z)
        subst ij
        rw [h2] at g2
        exact (Option.some.inj (Option.some.inj g2)).symm
      rw [e2, e3]
    have base := J.base
    refine ⟨v, H2, J.os, J.bare, ⟨base.keep, base.slot, fun b o e n hx => ?_, base.there, fun b xs e => ?_, fun b o u e => ?_, fun b ps e => ?_⟩, fun b o e => ?_, rv, q H2 htr⟩
    · rw [off b (lt e)]
      exact base.free b o e n hx
    · have hb := base.tups b xs e
      rw [off b fun y z => by rw [J.freeC y b z] at hb; cases hb]
      exact hb
    · have hb := base.frzs b o u e
      rw [off b fun y z => by rw [J.freeC y b z] at hb; cases hb]
      exact hb
    · obtain ⟨more, hb⟩ := base.tbls b ps e
      exact ⟨more, by rw [off b fun y z => by rw [J.freeC y b z] at hb; cases hb]; exact hb⟩
    · by_cases h : ∃ v : V, ∃ (i : Nat) (y : Str), X.N[i]? = some y ∧ σ'[i]? = some (some v) ∧ X.env.scope.names.lookup y = some .cell ∧ X.env.cells.lookup y = some b
      · have e2 : H2 b = some (CellO b h.choose) := dif_pos h
        rw [e2] at e
        cases e
        obtain ⟨u, ru, hc⟩ := val h.choose_spec
        exact cellO_ok ru hc
      · have e2 : H2 b = H' b := dif_neg h
        rw [e2] at e
        have nb : ∀ {c : Addr} {o : HO}, H' c = some o → H2 c = some o := fun {c o} ec => by
          rw [off c fun y z => by rw [J.freeC y c z] at ec; cases ec]
          exact ec
        exact (J.hok b o e).stay (fun c v _ q => q) (fun c q => nb q) fun c xs q => nb q
end
end Lm

set_option maxHeartbeats 2000000
/-! Moves made one behind the other. -/
namespace Lm
open PySem PySem.Spec PyProof.Rows L2 Evl
abbrev Mv := Bool × Int
def endI (ns : List Int) (ms : List Mv) : List Int := ms.foldl afterI ns
theorem end_snoc (ns : List Int) (ms : List Mv) (m : Mv) : endI ns (ms ++ [m]) = afterI (endI ns ms) m := by
  unfold endI
  rw [List.foldl_append]
  rfl
/-- each move can be made where it stands, and S holds of it (S: the how-manieth, the pile there, the move) -/
def PathI (S : Nat → List Int → Mv → Prop) (ns : List Int) (ms : List Mv) : Prop := ∀ (i : Nat) (m : Mv), ms[i]? = some m → m ∈ movesI (endI ns (ms.take i)) ∧ topI m ≤ 99 ∧ S i (endI ns (ms.take i)) m
section
variable {S : Nat → List Int → Mv → Prop} {ns : List Int} {ms : List Mv} {m : Mv}
theorem path_nil : PathI S ns [] := fun i m e => by simp at e
theorem path_snoc (p : PathI S ns ms) (h1 : m ∈ movesI (endI ns ms)) (h2 : topI m ≤ 99) (h3 : S ms.length (endI ns ms) m) : PathI S ns (ms ++ [m]) := fun i m' e => by
  by_cases h : i < ms.length
  · rw [List.getElem?_append_left h] at e
    rw [List.take_append_of_le_length (by omega)]
    exact p i m' e
  · have hi : i = ms.length := by
      have := (List.getElem?_eq_some_iff.mp e).1
      rw [List.length_append] at this
      have : i < ms.length + 1 := this
      omega
    subst hi
    rw [List.getElem?_append_right (Nat.le_refl _), Nat.sub_self] at e
    cases e
    rw [List.take_left']
    · exact ⟨h1, h2, h3⟩
    · rfl
theorem path_pre (p : PathI S ns ms) (k : Nat) : PathI S ns (ms.take k) := fun i m e => by
  have hi : i < k := by
    have := (List.getElem?_eq_some_iff.mp e).1
    rw [List.length_take] at this
    omega
  rw [List.getElem?_take_of_lt hi] at e
  rw [List.take_take, Nat.min_eq_left (by omega)]
  exact p i m e
theorem path_imp {S' : Nat → List Int → Mv → Prop} (h : ∀ i cur m, S i cur m → S' i cur m) (p : PathI S ns ms) : PathI S' ns ms := fun i m e => ⟨(p i m e).1, (p i m e).2.1, h _ _ _ (p i m e).2.2⟩
end
/-- fewer or as many marks behind a move -/
theorem after_len_le {ns : List Int} {m : Mv} (h1 : goA m ∈ ns) (h2 : goB m ∈ ns.erase (goA m)) : (afterI ns m).length ≤ ns.length := by
  rw [after_len]
  unfold leftI
  rw [List.length_erase_of_mem h2, List.length_erase_of_mem h1]
  have := (come_len m).2
  have l1 := List.length_pos_of_mem h1
  have l2 := List.length_pos_of_mem h2
  rw [List.length_erase_of_mem h1] at l2
  omega
/-- what stays so along the way -/
structure WayI (ns cur : List Int) (i : Nat) : Prop where
  pile : pileI cur = true
  len : cur.length ≤ ns.length
  worth : worthI cur = worthI ns
  weigh : weighI cur + i ≤ weighI ns
theorem way_nil {ns : List Int} (h : pileI ns = true) : WayI ns ns 0 := ⟨h, Nat.le_refl _, rfl, by show weighI ns + 0 ≤ weighI ns; omega⟩
theorem pile_len {ns : List Int} (h : pileI ns = true) : ns.length ≤ 240 := by
  unfold pileI at h
  rw [Bool.and_eq_true] at h
  exact of_decide_eq_true h.1
theorem way_step {ns cur : List Int} {i : Nat} {m : Mv} (w : WayI ns cur i) (hz : ns.length ≤ 200) (hm : m ∈ movesI cur) (ht : topI m ≤ 99) : WayI ns (afterI cur m) (i + 1) := by
  have hin := pile_in w.pile
  obtain ⟨g1, g2⟩ := (mem_moves hin m).mp hm
  have h0 : 0 ≤ m.2 := (hin _ g1).1
  refine ⟨after_pile hin (by have := w.len; omega) h0 ht, Nat.le_trans (after_len_le g1 g2) w.len, (worth_keeps h0 g1 g2).trans w.worth, ?_⟩
  have := weigh_less h0 g1 g2
  have := w.weigh
  omega
theorem path_way {S : Nat → List Int → Mv → Prop} {ns : List Int} (hp : pileI ns = true) (hz : ns.length ≤ 200) : ∀ {ms : List Mv}, PathI S ns ms → WayI ns (endI ns ms) ms.length := by
  intro ms
  induction hk : ms.length generalizing ms with
  | zero =>
    intro p
    rw [List.length_eq_zero_iff.mp hk]
    exact way_nil hp
  | succ k ih =>
    intro p
    have e : ms = ms.take k ++ [ms[k]'(by omega)] := by
      conv => lhs; rw [← List.take_length (l := ms), hk]
      rw [List.take_add_one, List.getElem?_eq_getElem (by omega)]
      rfl
    have w := ih (ms := ms.take k) (by rw [List.length_take]; omega) (path_pre p k)
    obtain ⟨h1, h2, _⟩ := p k _ (List.getElem?_eq_getElem (by omega))
    rw [e, end_snoc]
    exact way_step w hz h1 h2
/-- no more moves than the weight tells -/
theorem path_len {S : Nat → List Int → Mv → Prop} {ns : List Int} {ms : List Mv} (hp : pileI ns = true) (hz : ns.length ≤ 200) (p : PathI S ns ms) : (ms.length : Int) ≤ weighI ns := by
  have w := path_way hp hz p
  have h := w.weigh
  have := weigh_pos (endI ns ms) fun n hn => (pile_in w.pile n hn).1
  omega
/-- the end is the one row of the worth -/
theorem path_end {S : Nat → List Int → Mv → Prop} {ns : List Int} {ms : List Mv} (hp : pileI ns = true) (hz : ns.length ≤ 200) (p : PathI S ns ms) (he : movesI (endI ns ms) = []) : worthI ns < fw 100 ∧ endI ns ms = rowI (worthI ns) := by
  have w := path_way hp hz p
  obtain ⟨h1, h2⟩ := settled_row w.pile he
  rw [w.worth] at h1 h2
  exact ⟨h1, h2.symm⟩
/-- where S tells the move, the way is one -/
theorem path_one {S : Nat → List Int → Mv → Prop} (hS : ∀ i cur m m', S i cur m → S i cur m' → m = m') {ns : List Int} {ms ms' : List Mv} (p : PathI S ns ms) (p' : PathI S ns ms') (h : movesI (endI ns ms) = []) (h' : movesI (endI ns ms') = []) : ms = ms' := by
  have key : ∀ k, k ≤ ms.length → k ≤ ms'.length → ms.take k = ms'.take k := by
    intro k
    induction k with
    | zero => intro _ _; rfl
    | succ k ih =>
      intro h1 h2
      have e := ih (by omega) (by omega)
      have a := (p k _ (List.getElem?_eq_getElem (show k < ms.length by omega))).2.2
      have b := (p' k _ (List.getElem?_eq_getElem (show k < ms'.length by omega))).2.2
      rw [e] at a
      rw [List.take_add_one, List.take_add_one, e, List.getElem?_eq_getElem (show k < ms.length by omega), List.getElem?_eq_getElem (show k < ms'.length by omega), hS _ _ _ _ a b]
  have no : ∀ {ns : List Int} {ms ms' : List Mv}, PathI S ns ms' → movesI (endI ns ms) = [] → ms.length < ms'.length → ms = ms'.take ms.length → False := fun {ns ms ms'} q h hl e => by
    have z := (q ms.length _ (List.getElem?_eq_getElem hl)).1
    rw [← e, h] at z
    cases z
  rcases Nat.lt_trichotomy ms.length ms'.length with z | z | z
  · have e := key ms.length (Nat.le_refl _) (by omega)
    rw [List.take_length] at e
    exact (no p' h z e).elim
  · have e := key ms.length (Nat.le_refl _) (by omega)
    rw [List.take_length, z, List.take_length] at e
    exact e
  · have e := key ms'.length (by omega) (Nat.le_refl _)
    rw [List.take_length] at e
    exact (no p h' z e.symm).elim
/-- the moves that may be picked -/
def fitI (ns : List Int) : List Mv := (movesI ns).filter fun m => decide (topI m ≤ 99)
theorem fit_mem {ns : List Int} {m : Mv} : m ∈ fitI ns ↔ m ∈ movesI ns ∧ topI m ≤ 99 := by
  unfold fitI
  rw [List.mem_filter, decide_eq_true_eq]
theorem fit_all {ns : List Int} (hp : pileI ns = true) (hw : worthI ns < fw 100) : fitI ns = movesI ns := by
  unfold fitI
  exact List.filter_eq_self.mpr fun m hm => decide_eq_true (top_fits (pile_in hp) hm hw)
theorem moves_len (ns : List Int) : (movesI ns).length ≤ 199 := by
  unfold movesI
  rw [List.length_append, List.length_map, List.length_map]
  have := joinI_len ns
  have := dblI_len ns
  omega
theorem fit_len (ns : List Int) : (fitI ns).length ≤ 199 := Nat.le_trans (List.length_filter_le _ _) (moves_len ns)
theorem weigh_le {ns : List Int} (h : ∀ n ∈ ns, 0 ≤ n ∧ n ≤ 99) : weighI ns ≤ 200 * ns.length := by
  unfold weighI
  induction ns with
  | nil => decide
  | cons a r ih =>
    rw [List.map_cons, List.sum_cons, List.length_cons]
    have := ih fun n hn => h n (List.mem_cons_of_mem _ hn)
    have ha := h a List.mem_cons_self
    have : mwI a ≤ 200 := by
      unfold mwI
      repeat' split
      all_goals omega
    omega
end Lm

set_option maxHeartbeats 2000000
/-! What settling.py promises, whatever picks. -/
namespace Lm
open PySem PySem.Spec PyProof.Rows L2 Evl NdefX
def Dis (F M : Hp) : Prop := ∀ a o, F a = some o → M a = none
theorem Dis.sub {F F' M : Hp} (d : Dis F M) (e : Ex F' F) : Dis F' M := fun a o h => d a o (e a o h)
theorem Dis.symm {F M : Hp} (d : Dis F M) {a : Addr} {o : HO} (h : M a = some o) : F a = none := by
  cases z : F a with
  | none => rfl
  | some u =>
    rw [d a u z] at h
    cases h
/-- all of H but M -/
def off (H M : Hp) : Hp := fun a => match M a with
  | none => H a
  | some _ => none
theorem off_at {H M : Hp} {a : Addr} (h : M a = none) : off H M a = H a := by
  unfold off
  rw [h]
theorem off_ex {H M : Hp} : Ex (off H M) H := fun a o h => by
  unfold off at h
  split at h
  · exact h
  · cases h
theorem off_up {H H' M : Hp} (e : Ex H H') : Ex (off H M) (off H' M) := fun a o k => by
  unfold off at *
  split at k
  · exact e _ _ k
  · cases k
theorem off_dis {H M : Hp} : Dis (off H M) M := fun a o h => by
  unfold off at h
  split at h
  · assumption
  · cases h
theorem off_in {F H M : Hp} (e : Ex F H) (d : Dis F M) : Ex F (off H M) := fun a o h => by
  rw [off_at (d a o h)]
  exact e a o h
/-- all of H but what stands at l -/
def rem (H : Hp) (l : Addr) : Hp := fun a => if a = l then none else H a
theorem rem_ex {H : Hp} {l : Addr} : Ex (rem H l) H := fun a o h => by
  unfold rem at h
  split at h
  · cases h
  · exact h
theorem rem_at {H : Hp} {l : Addr} : rem H l l = none := if_pos rfl
theorem rem_in {F H : Hp} {l : Addr} (e : Ex F H) (n : F l = none) : Ex F (rem H l) := fun a o h => by
  unfold rem
  rw [if_neg (ne_of_none h n)]
  exact e a o h
theorem rem_none {H : Hp} {l a : Addr} (h : rem H l a = none) (n : a ≠ l) : H a = none := by
  unfold rem at h
  rw [if_neg n] at h
  exact h
theorem Part.start {G B H : Hp} (e : Ex G B) (x : Ex B H) : Part G B G H := ⟨Ex.refl G, e.trans x, x, fun a o h n => by rw [n] at h; cases h⟩
theorem Part.weak {G0 G H0 H B : Hp} (P : Part G0 H0 G H) (e : Ex B H0) : Part G0 B G H := ⟨P.ext, P.sub, e.trans P.old, fun a o h n => fresh_back e (P.new a o h n)⟩
theorem Part.seq {G0 G1 G2 H1 H2 B : Hp} (p : Part G0 B G1 H1) (q : Part G1 B G2 H2) : Part G0 B G2 H2 := ⟨p.ext.trans q.ext, q.sub, q.old, fun a o h n => by
  cases z : G1 a with
  | some u => exact p.new a u z n
  | none => exact q.new a o h z⟩
/-- what is new is none of M's -/
theorem Part.dis {G0 G H H0 M : Hp} {l : Addr} (P : Part G0 (rem H0 l) G H) (d : Dis G0 M) (m : Ex M H0) (n : M l = none) : Dis G M := fun a o h => by
  cases z : G0 a with
  | some u => exact d a u z
  | none =>
    have k := P.new a o h z
    cases y : M a with
    | none => rfl
    | some u =>
      have ne : a ≠ l := ne_of_none y n
      have k2 := rem_none k ne
      rw [m a u y] at k2
      cases k2
section
variable (P : Program) (w : World) (K : PySem.W.Frag) (mg : Str → Option Value) (base : Heap) (k : Nat)
/-- what is known of a pick: Fi what it leans on, C of the heap that is its own, ahead of the i-th call at a pile; S of the move that it picks then -/
def PkOk (pk : V) (Fi : Hp) (C : Nat → List Int → Hp → Prop) (S : Nat → List Int → Mv → Prop) : Prop :=
  (pk = .non ∧ (∀ i ns m M, C i ns M → C (i + 1) (afterI ns m) M) ∧ ∀ i ns m, (fitI ns)[0]? = some m → S i ns m) ∨
  ∃ f sp, pk = .ref f ∧ Fr_ P w K mg base k f sp ∧ FnH K Fi f ∧ ∀ i ns F M H l xs (Q : VK), pileI ns = true → ns.length ≤ 126 → Ex Fi F → C i ns M → fitI ns ≠ [] → Ex F H → Ex M H → Dis F M → RpA F xs ((fitI ns).map mvD) → H l = some (.lst xs) → F l = none → M l = none →
    (∀ (j : Nat) m H' M', (fitI ns)[j]? = some m → S i ns m → Ex F H' → Ex M' H' → Dis F M' → C (i + 1) (afterI ns m) M' → Q (.int (j : Int)) H') → sp [.ref l] H Q E0
/-- one of the moves -/
def spPicked : Sp := fun vs H Q _ => ∃ a xs pk, vs = [.ref a, pk] ∧ H a = some (.lst xs) ∧ xs.length ≤ 1000 ∧
  ((pk = .non ∧ ∃ x, xs[0]? = some x ∧ ∀ H', Ex H H' → Q x H') ∨
   ∃ f sp, pk = .ref f ∧ Fr_ P w K mg base k f sp ∧ FnH K H f ∧ ∀ l H1, Ex H H1 → H1 l = some (.lst xs) → H l = none → sp [.ref l] H1 (fun v H2 => ∃ (j : Nat) (x : V), v = .int (j : Int) ∧ xs[j]? = some x ∧ H2 a = some (.lst xs) ∧ ∀ H3, Ex H2 H3 → Q x H3) E0)
/-- a paper and its end -/
def spPE (C0 C3 : Addr) : Sp := fun vs H Q E =>
  (∃ G d v pk, Ex G H ∧ vs = [v, pk] ∧ Rp G v d ∧ plainD d = true ∧ isPileD d = false ∧ ∀ H', Ex H H' → E (.ref C0) none H') ∨
  ∃ F M ns v pk Fi C S, vs = [v, pk] ∧ Ex F H ∧ Ex M H ∧ Dis F M ∧ Rp F v (.tuple (ns.map .int)) ∧ pileI ns = true ∧ ns.length ≤ 126 ∧ PkOk P w K mg base k pk Fi C S ∧ Ex Fi F ∧ C 0 ns M ∧
    (worthI ns < fw 100 → ∀ ms t lp v2 xs F' H' M', PathI S ns ms → movesI (endI ns ms) = [] → Part F (off H M) F' H' → Ex M' H' → Dis F' M' → Dis (off H M) M' → C ms.length (endI ns ms) M' → H' lp = some (.lst xs) → F' lp = none → M' lp = none → H lp = none → RpA F' xs (ms.map mvD) →
      Rp F' v2 (.tuple ((endI ns ms).map .int)) → H' t = some (.tup [.ref lp, v2]) → Q (.ref t) H') ∧
    (fw 100 ≤ worthI ns → ∀ H', Ex (off H M) H' → E (.ref C3) none H')
/-- the row at its end -/
def spSettled (C0 C3 : Addr) : Sp := fun vs H Q E =>
  (∃ G d v pk, Ex G H ∧ vs = [v, pk] ∧ Rp G v d ∧ plainD d = true ∧ isPileD d = false ∧ ∀ H', Ex H H' → E (.ref C0) none H') ∨
  ∃ F M ns v pk Fi C S, vs = [v, pk] ∧ Ex F H ∧ Ex M H ∧ Dis F M ∧ Rp F v (.tuple (ns.map .int)) ∧ pileI ns = true ∧ ns.length ≤ 126 ∧ PkOk P w K mg base k pk Fi C S ∧ Ex Fi F ∧ C 0 ns M ∧
    (worthI ns < fw 100 → ∀ ms v2 F' H' M', PathI S ns ms → movesI (endI ns ms) = [] → Part F (off H M) F' H' → Ex M' H' → Dis F' M' → Dis (off H M) M' → C ms.length (endI ns ms) M' → Rp F' v2 (.tuple ((endI ns ms).map .int)) → Q v2 H') ∧
    (fw 100 ≤ worthI ns → ∀ H', Ex (off H M) H' → E (.ref C3) none H')
/-- the paper, a list of the asker's own -/
def spPaper (C0 C3 : Addr) : Sp := fun vs H Q E =>
  (∃ G d v pk, Ex G H ∧ vs = [v, pk] ∧ Rp G v d ∧ plainD d = true ∧ isPileD d = false ∧ ∀ H', Ex H H' → E (.ref C0) none H') ∨
  ∃ F M ns v pk Fi C S, vs = [v, pk] ∧ Ex F H ∧ Ex M H ∧ Dis F M ∧ Rp F v (.tuple (ns.map .int)) ∧ pileI ns = true ∧ ns.length ≤ 126 ∧ PkOk P w K mg base k pk Fi C S ∧ Ex Fi F ∧ C 0 ns M ∧
    (worthI ns < fw 100 → ∀ ms lp xs F' H' M', PathI S ns ms → movesI (endI ns ms) = [] → Part F (off H M) F' H' → Ex M' H' → Dis F' M' → Dis (off H M) M' → C ms.length (endI ns ms) M' → H' lp = some (.lst xs) → F' lp = none → M' lp = none → H lp = none → RpA F' xs (ms.map mvD) → Q (.ref lp) H') ∧
    (fw 100 ≤ worthI ns → ∀ H', Ex (off H M) H' → E (.ref C3) none H')
end
/-- truth of a list -/
def tTru (K : PySem.W.Frag) (ta : TE) : TT := fun σ H Q => ta σ H fun x H' => ∃ k, TruV K x H' k ∧ Q k H'
theorem et_truL {K : PySem.W.Frag} {ta : TE} {σ : L2.St} {G : Hp} {ds : List PyData} (h : EvD ta σ G (.list ds)) : EvT (tTru K ta) σ G (!ds.isEmpty) := fun H x Q q => h H x _ fun v G1 H1 p r => by
  cases r with
  | @lst a xs _ e b =>
    have k : (!xs.isEmpty) = !ds.isEmpty := by
      have := b.len
      cases xs <;> cases ds <;> simp_all
    exact ⟨_, .inl ⟨xs, sq_of (p.sub _ _ e), rfl⟩, by rw [k]; exact q H1 p.old⟩
theorem passP {X : Cx} : ∀ σ, PassesAt (L2.CX X.prog X.w) X σ E0 := fun σ pins H s e s' I h => passL pins σ H s e s' I h
theorem Part.dis0 {G0 G H H0 M : Hp} (P : Part G0 H0 G H) (d : Dis G0 M) (m : Ex M H0) : Dis G M := fun a o h => by
  cases z : G0 a with
  | some u => exact d a u z
  | none => exact fresh_back m (P.new a o h z)
theorem nonempty_map {ms : List Mv} (h : (!(ms.map mvD).isEmpty) = true) : ms ≠ [] := fun z => by
  rw [z] at h
  cases h
theorem empty_map {ms : List Mv} (h : (!(ms.map mvD).isEmpty) = false) : ms = [] := by
  cases ms with
  | nil => rfl
  | cons a r => cases h
def fitF : PyData → Bool
  | .tuple [.str s, .int k] => decide (topI (decide (s = "join"), k) ≤ 99)
  | _ => false
theorem fitF_mv (m : Mv) : fitF (mvD m) = decide (topI m ≤ 99) := by
  obtain ⟨b, k⟩ := m
  show decide (topI (decide (mvS b = "join"), k) ≤ 99) = decide (topI (b, k) ≤ 99)
  have : decide (mvS b = "join") = b := by cases b <;> decide +kernel
  rw [this]
theorem fit_lc (ns : List Int) : lcD fitF (fun d => d) ((movesI ns).map mvD) = (fitI ns).map mvD := by
  unfold lcD fitI
  rw [List.filter_map, List.map_id']
  congr 1
  refine List.filter_congr fun m _ => ?_
  exact fitF_mv m
section
variable {σ : L2.St} {G G0 H H0 : Hp} {te : TE} {D : Ends} {d : PyData}
theorem d_asgP1 {i : Nat} (P : Part G0 H0 G H) (h : EvD te σ G d) (k : ∀ v G' H', Part G H G' H' → Rp G' v d → D.nx (σ.set i (some v)) H') : tAsg te (gName i) D σ H :=
  h H P.sub _ fun v G' H' p r => k v G' H' p r
end
end Lm

set_option maxHeartbeats 2000000
/-! Defs whose last parameter may be left out: None then. -/
namespace Lm
open PySem PySem.Spec PyProof.Rows L2 Evl NdefX
structure AtD (K : PySem.W.Frag) (mg : Str → Option Value) (x : Str) (ps : List Str) (st : Stmt) (f : Addr) : Prop where
  g : mg x = some (.ref f)
  ex : ∃ fd ds, FunD K x x (defArgs st) (defBody st) (defScope st) [.non] [] f fd ∧ Binds K fd ps [] ∧ Vals [.non] ds ∧ Binds K fd ps ds
structure HasD (P : Program) (w : World) (K : PySem.W.Frag) (mg : Str → Option Value) (base : Heap) (x : Str) (ps : List Str) (k : Nat) (sp : Sp) : Prop where
  ex : ∃ f fd ds, mg x = some (.ref f) ∧ PySem.W.keepIn K (.ref f) = true ∧ Binds K fd ps [] ∧ Vals [.non] ds ∧ Binds K fd ps ds ∧ FnOk P w K mg base (L2.CX P w) k f fd ps sp
section
variable {P : Program} {w : World} {K : PySem.W.Frag} {mg : Str → Option Value} {base : Heap} {x : Str} {ps N : List Str} {st : Stmt} {k j : Nat} {f : Addr} {sp : Sp}
theorem AtD.kp (a : AtD K mg x ps st f) : PySem.W.keepIn K (.ref f) = true := by
  obtain ⟨fd, ds, F, _⟩ := a.ex
  exact F.kp
theorem has_ofD (a : AtD K mg x ps st f) (S : FnScope N ps (defScope st)) (hl : ∀ vs H Q E, sp vs H Q E → vs.length = ps.length)
    (hbody : ∀ (cdv : Value) (A : Around) (outer : List Env) (s : Shared) (H : Hp) (vs : List V) (Q : VK) (E : XK), Room k (A.deeper (envOfC x (defScope st) s.heap.objs.size f cdv)) →
      (∃ t, PSs (cxOf (L2.CX P w) P w K mg base N x (defScope st) f cdv A outer s H E) (defBody st) t ∧ (sp vs H Q E → t { nx := fun _ H' => Q .non H', rt := Q } (start N vs) H))) : HasD P w K mg base x ps (k + 1) sp := by
  obtain ⟨fd, ds, F, b0, r, b1⟩ := a.ex
  refine ⟨f, fd, ds, a.g, F.kp, b0, r, b1, F.ok S hl (fun cdv A outer s H vs Q E hr h => ?_)⟩
  obtain ⟨t, h1, h2⟩ := hbody cdv A outer s H vs Q E hr
  exact ⟨t, h1, h2 h⟩
theorem HasD.has (h : HasD P w K mg base x ps k sp) : Has P w K mg base x ps k sp := by
  obtain ⟨f, fd, ds, h1, h2, h3, _, _, h4⟩ := h.ex
  exact ⟨f, fd, h1, h2, h3, h4⟩
/-- its promise whether the last one is left out or not -/
def dflS (n : Nat) (sp : Sp) : Sp := fun vs H Q E => (vs.length + 1 = n ∧ sp (vs ++ [.non]) H Q E) ∨ (vs.length = n ∧ sp vs H Q E)
theorem HasD.fnr (h : HasD P w K mg base x ps k sp) (g : mg x = some (.ref f)) (hk : k ≤ j) : Fr_ P w K mg base j f (dflS ps.length sp) := by
  obtain ⟨f', fd, ds, h1, h2, h3, r1, h5, h4⟩ := h.ex
  rw [g] at h1
  cases h1
  intro A outer s H us vs Q E hr e0 r hsp
  rcases hsp with ⟨_, hsp⟩ | ⟨_, hsp⟩
  · exact ((h4.mono hk).raw h5 r1) A outer s H us vs Q E hr e0 r hsp
  · exact ((h4.mono hk).raw h3 .nil) A outer s H us vs Q E hr e0 r (by show sp (vs ++ []) H Q E; rw [List.append_nil]; exact hsp)
end
section
variable {X : Cx} {x : Str} {ps : List Str} {k : Nat} {sp : Sp} {E : XK} {p pos : Pos} {e : Expr} {es : List Expr} {t : TA}
/-- f(..), the last one left out -/
theorem pe_callD (h : HasD X.prog X.w X.K X.mg X.base x ps k sp) (hr : Room k X.A) (hg : Gl X x) (hx : Passes (L2.CX X.prog X.w) X E) (ha : PA X (e :: es) t) (hdb : (x == ("__debug__" : Str)) = false := by decide)
    (he : starEach (e :: es) X.env = (false, eval e X.env) :: starEach es X.env := by rfl) (hpl : (backTo pos (starEach es X.env)).any (·.1) = false := by rfl) : PE X (.Call (.Name x p) (e :: es) [] pos) (tCall sp [.non] E t) := by
  obtain ⟨f, fd, ds, h1, h2, h3, r1, h5, h4⟩ := h.ex
  exact pe_call h4 hr hg h1 h2 h5 r1 hx ha hdb he hpl
end
section
variable {K : PySem.W.Frag} {mg : Str → Option Value} {x : Str} {ps : List Str} {st : Stmt} {f T : Addr} {oc kV doc pm cd ct : Value} {od an : Option Addr} {sl : Array (Option Value)} {ob : Obj} {n : Nat}
/-- .. from the facts that the top leaves -/
theorem atD_mk (g : mg x = some (.ref f)) (l : K.lookup f = some ⟨oc, od, .func (PySem.W.fnOf x x (defArgs st) (defBody st) (defScope st) (.ref T) kV doc pm an cd ct), sl⟩) (c : PySem.W.codeIn K cd x = true) (kp : PySem.W.keepIn K (.ref f) = true)
    (lT : K.lookup T = some ob) (oT : ob.data = .seq #[.none] n)
    (b0 : ∀ (T : Addr) (kV doc pm : Value) (an : Option Addr) (cdv ct : Value) (us its : List Value), us.length = ps.length → its.length = 1 → ∃ k, bindArgs (PySem.W.fnOf x x (defArgs st) (defBody st) (defScope st) (.ref T) kV doc pm an cdv ct) ⟨us, []⟩ = seqItems? (.ref T) >>= k ∧ k (some its.toArray) = pure (ps.zip (us ++ its.drop 1)))
    (b1 : ∀ (T : Addr) (kV doc pm : Value) (an : Option Addr) (cdv ct : Value) (us its : List Value), us.length + 1 = ps.length → its.length = 1 → ∃ k, bindArgs (PySem.W.fnOf x x (defArgs st) (defBody st) (defScope st) (.ref T) kV doc pm an cdv ct) ⟨us, []⟩ = seqItems? (.ref T) >>= k ∧ k (some its.toArray) = pure (ps.zip (us ++ its.drop 0)))
    (hps : 0 < ps.length) : AtD K mg x ps st f := by
  have F : FunD K x x (defArgs st) (defBody st) (defScope st) [.non] [] f (PySem.W.fnOf x x (defArgs st) (defBody st) (defScope st) (.ref T) kV doc pm an cd ct) := ⟨⟨oc, od, .ref T, kV, doc, pm, an, cd, ct, sl, rfl, l, c, .inr ⟨by simp, T, ob, [.none], n, rfl, lT, oT, .cons rfl .nil⟩, .inl rfl⟩, kp⟩
  obtain ⟨ds0, r0, B0⟩ := F.binds1 (ps := ps) ps.length 1 (by simp) (by simp) fun T kV doc pm an cdv ct us its h1 h2 => b0 T kV doc pm an cdv ct us its h1 h2
  obtain ⟨ds1, r1, B1⟩ := F.binds1 (ps := ps) (ps.length - 1) 0 (by simp) (by simp; omega) fun T kV doc pm an cdv ct us its h1 h2 => b1 T kV doc pm an cdv ct us its (by omega) h2
  cases r0
  exact ⟨g, _, ds1, F, B0, r1, B1⟩
end
end Lm

set_option maxHeartbeats 2000000
/-! Picks that are made while running. -/
namespace Lm
open PySem PySem.Spec PyProof.Rows L2 Evl NdefX LamX
/-! ### the part of a heap that is plain data -/
def isD : HO → Bool
  | .lst _ => true
  | .tup _ => true
  | .dK _ => true
  | .frz _ _ => true
  | _ => false
/-- plain data stays -/
def ExD (G H : Hp) : Prop := ∀ a o, isD o = true → G a = some o → H a = some o
theorem Ex.d {G H : Hp} (e : Ex G H) : ExD G H := fun a o _ h => e a o h
theorem ExD.trans {G H J : Hp} (a : ExD G H) (b : ExD H J) : ExD G J := fun c o d h => b c o d (a c o d h)
def dat (G : Hp) : Hp := fun a => match G a with
  | some o => if isD o = true then some o else none
  | none => none
theorem dat_at {G : Hp} {a : Addr} {o : HO} (h : dat G a = some o) : G a = some o ∧ isD o = true := by
  unfold dat at h
  cases z : G a with
  | none =>
    rw [z] at h
    cases h
  | some u =>
    rw [z] at h
    by_cases y : isD u = true
    · have h2 : (if isD u = true then some u else none) = some o := h
      rw [if_pos y] at h2
      cases h2
      exact ⟨rfl, y⟩
    · have h2 : (if isD u = true then some u else none) = some o := h
      rw [if_neg y] at h2
      cases h2
theorem dat_in {G : Hp} {a : Addr} {o : HO} (h : G a = some o) (d : isD o = true) : dat G a = some o := by
  unfold dat
  rw [h]
  show (if isD o = true then some o else none) = some o
  rw [if_pos d]
theorem dat_ex {G : Hp} : Ex (dat G) G := fun a o h => (dat_at h).1
theorem dat_to {G H : Hp} (e : ExD G H) : Ex (dat G) H := fun a o h => e a o (dat_at h).2 (dat_at h).1
mutual
theorem Rp.dmono {G G' : Hp} (e : ExD G G') : ∀ (d : PyData) (v : V), Rp G v d → Rp G' v d
  | .none, _, h => by cases h; exact .non
  | .bool b, _, h => by cases h; exact .bl b
  | .int i, _, h => by cases h; exact .int i
  | .str x, _, h => by cases h; exact .str x
  | .list ds, _, h => by
    cases h with
    | lst a b => exact .lst (e _ _ rfl a) (RpA.dmono e ds _ b)
  | .tuple ds, _, h => by
    cases h with
    | tup a b => exact .tup (a.elim (fun z => .inl (e _ _ rfl z)) fun ⟨o, z⟩ => .inr ⟨o, e _ _ rfl z⟩) (RpA.dmono e ds _ b)
  | .dict _, _, h => by
    cases h with
    | dic a => exact .dic (e _ _ rfl a)
    | obj a => exact .obj a
    | frz a b c => exact .frz (e _ _ rfl a) b c
theorem RpA.dmono {G G' : Hp} (e : ExD G G') : ∀ (ds : List PyData) (vs : List V), RpA G vs ds → RpA G' vs ds
  | [], _, h => by cases h; exact .nil
  | d :: ds, _, h => by
    cases h with
    | cons a b => exact .cons (Rp.dmono e d _ a) (RpA.dmono e ds _ b)
end
theorem dat_d {G : Hp} : ExD G (dat G) := fun a o d h => dat_in h d
theorem Rp.dat {G : Hp} {v : V} {d : PyData} (h : Rp G v d) : Rp (dat G) v d := Rp.dmono dat_d d v h
theorem RpA.dat {G : Hp} {vs : List V} {ds : List PyData} (h : RpA G vs ds) : RpA (dat G) vs ds := RpA.dmono dat_d ds vs h
/-- nothing but plain data -/
def DatH (F : Hp) : Prop := ∀ a o, F a = some o → isD o = true
theorem dat_dat {G : Hp} : DatH (dat G) := fun a o h => (dat_at h).2
theorem extN_d {F H H' : Hp} (d : DatH F) (e : Ex F H) (n : ExtN H H') : Ex F H' := fun a o h => n a o (e a o h) fun ps z => by
  have := d a o h
  rw [z] at this
  cases this
theorem tabs_up {T : List NTab} {H H' : Hp} (t : TabsN T H) (e : Ex H H') : TabsN T H' := TabsN.ext t e
/-! ### putting an entry into a part -/
theorem upd_ex {F H : Hp} {l : Addr} {o : HO} (e : Ex F H) (h : H l = some o) : Ex (upd F l o) H := fun a u k => by
  by_cases z : a = l
  · subst z
    rw [upd_same] at k
    rw [← k]
    exact h
  · rw [upd_ne z] at k
    exact e a u k
theorem upd_of {F H : Hp} {l : Addr} {o : HO} (e : Ex F H) (h : H l = some o) : Ex F (upd F l o) := fun a u k => by
  by_cases z : a = l
  · subst z
    rw [upd_same, ← h]
    exact (e _ _ k)
  · rw [upd_ne z]
    exact k
theorem ex_mut {F H : Hp} {l : Addr} {o : HO} (e : Ex F H) (n : F l = none) : Ex F (upd H l o) := fun a u k => by
  rw [upd_ne (ne_of_none k n)]
  exact e a u k
section
variable {σ : L2.St} {G Hc H : Hp} {te to ti : TE} {D : Ends} {tz : TS}
/-- x[i] = e, x a list of one's own -/
theorem q_set {l : Addr} {xs : List V} {i : Int} {j : Nat} {v : V} (h : Ev te σ Hc v) (ho : Ev to σ Hc (.ref l)) (hi : Ev ti σ Hc (.int i)) (x : Ex Hc H) (hl : Hc l = some (.lst xs)) (hj : ixN xs.length i = some j) (k : ∀ H1, Ex H H1 → tz D σ (upd H1 l (.lst (xs.set j v)))) :
    tSeq (tAsg te (gSub to ti rSetL)) tz D σ H := h H x _ fun H1 x1 => ho H1 (x.trans x1) _ fun H2 x2 => hi H2 (x.trans (x1.trans x2)) _ fun H3 x3 =>
  ⟨l, xs, i, j, rfl, rfl, (x.trans (x1.trans (x2.trans x3))) _ _ hl, hj, k H3 (x1.trans (x2.trans x3))⟩
/-- .. of what te makes -/
theorem q_setR {l : Addr} {xs : List V} {i : Int} {j : Nat} {R : V → Hp → Prop} (h : ∀ Q : VK, (∀ v H1, Ex H H1 → R v H1 → Q v H1) → te σ H Q) (ho : Ev to σ H (.ref l)) (hi : Ev ti σ H (.int i)) (hl : H l = some (.lst xs)) (hj : ixN xs.length i = some j)
    (k : ∀ v H1 H2, Ex H H1 → R v H1 → Ex H1 H2 → tz D σ (upd H2 l (.lst (xs.set j v)))) :
    tSeq (tAsg te (gSub to ti rSetL)) tz D σ H := h _ fun v H1 x1 r => ho H1 x1 _ fun H2 x2 => hi H2 (x1.trans x2) _ fun H3 x3 =>
  ⟨l, xs, i, j, rfl, rfl, (x1.trans (x2.trans x3)) _ _ hl, hj, k v H1 H3 x1 r (x2.trans x3)⟩
/-- x.clear() -/
theorem q_clear {K : PySem.W.Frag} {l : Addr} {xs : List V} (ho : Ev to σ H (.ref l)) (hl : H l = some (.lst xs)) (k : ∀ H1, Ex H H1 → tz D σ (upd H1 l (.lst []))) : tSeq (tDrop (tBM0 K "list" rClear to)) tz D σ H :=
  ho H (Ex.refl H) _ fun H1 x1 => ⟨Or.inl ⟨rfl, xs, sq_of (x1 _ _ hl)⟩, l, xs, rfl, rfl, x1 _ _ hl, k H1 x1⟩
end
/-! ### a choice by numbers, over and over -/
def pickJ (cells : List Int) (k : Int) (n : Nat) : Int := mixI (cells.getD (k % (cells.length : Int)).toNat 0) (400 + k) % (n : Int)
theorem pickJ_in (cells : List Int) (k : Int) {n : Nat} (h : 0 < n) : 0 ≤ pickJ cells k n ∧ pickJ cells k n < n := ⟨Int.emod_nonneg _ (by omega), Int.emod_lt_of_pos _ (by omega)⟩
def spPickB : List (Option V) → Sp := fun ws vs H Q _ => ∃ (ls ac lm : Addr) (k : Int) (xs : List V) (cells : List Int) (F : Hp), ws = [some (.ref ac), some (.ref ls)] ∧ vs = [.ref lm] ∧ Ex F H ∧ F ls = none ∧ lm ≠ ls ∧ H ls = some (.lst [.int k]) ∧ H lm = some (.lst xs) ∧ 0 < xs.length ∧ xs.length ≤ 1000 ∧
  Rp F (.ref ac) (.list (cells.map .int)) ∧ 0 < cells.length ∧ cells.length ≤ 1000 ∧ 0 ≤ k ∧ k ≤ 900000 ∧ ∀ H', Ex F H' → H' ls = some (.lst [.int (k + 1)]) → H' lm = some (.lst xs) → Q (.int (pickJ cells (k + 1) xs.length)) H'
def pickF (nst : Stmt) (qn : Str) (cl : List (Str × Addr)) (c : Addr) : NF := NF.of nst "_law_pick_here" qn cl c
abbrev pickFr : List Str := ["_law_cells", "_law_state"]
def spMkPick (T : List NTab) (nst : Stmt) (qn : Str) : Sp := fun vs H Q _ => ∃ a, vs = [.ref a] ∧ TabsN T H ∧ ∀ f ls cl c H', ExtN H H' → (∀ b, H' b = none → H b = none) → TabsN T H' → CloAt H' f (pickF nst qn cl c) pickFr [.ref a, .ref ls] → H' ls = some (.lst [.int 0]) →
  H f = none → H ls = none → (∀ b, IsCl (pickF nst qn cl c) b → H b = none) → Q (.ref f) H'
structure AtC (K : PySem.W.Frag) (mg : Str → Option Value) (x : Str) (ps : List Str) (st : Stmt) (f c : Addr) : Prop where
  g : mg x = some (.ref f)
  ex : ∃ fd, Fun K x x st f fd ∧ Binds K fd ps [] ∧ fd.code = .ref c
section
variable {P : Program} {w : World} {K : PySem.W.Frag} {mg : Str → Option Value} {base : Heap} {x : Str} {ps N : List Str} {st : Stmt} {k : Nat} {f c : Addr}
theorem AtC.at (a : AtC K mg x ps st f c) : At K mg x ps st f := by
  obtain ⟨fd, h1, h2, _⟩ := a.ex
  exact ⟨a.g, fd, h1, h2⟩
/-- a def that hands out one of its own -/
theorem has_ofC {sp : Sp} (a : AtC K mg x ps st f c) (S : FnScope N ps (defScope st)) (hl : ∀ vs H Q E, sp vs H Q E → vs.length = ps.length)
    (hbody : ∀ (A : Around) (outer : List Env) (s : Shared) (H : Hp) (vs : List V) (Q : VK) (E : XK), Room k (A.deeper (envOfC x (defScope st) s.heap.objs.size f (.ref c))) → sp vs H Q E →
      ∃ t, PSR (cxOf (L2.CX P w) P w K mg base N x (defScope st) f (.ref c) A outer s H E) (defBody st) t ∧
        t (fun v σ H' => ∀ H2, Tracks (cxOf (L2.CX P w) P w K mg base N x (defScope st) f (.ref c) A outer s H E) σ H' H2 → Q v H2) (start N vs) H) : Has P w K mg base x ps (k + 1) sp := by
  obtain ⟨fd, F, b, hc⟩ := a.ex
  refine ⟨f, fd, a.g, F.kp, b, fun_okC F S hl fun cdv A outer s H vs Q E hcd hr h => ?_⟩
  rw [hc] at hcd
  subst hcd
  exact hbody A outer s H vs Q E hr h
end
/-- its cells are known behind its maker -/
theorem clo_made {X : Cx} {σ : L2.St} {H1 H2 : Hp} {f c : Addr} {nst : Stmt} {name qn : Str} {fr : List Str} {ws : List V} (tr : Tracks X σ H1 H2) (hf : H1 f = some (FnO f (NF.of nst name qn (cloFrom X.env.cells (C8.fnScope nst).names []) c))) (hc : H1 c = some (CodeO c qn))
    (hfree : ∀ y ∈ (C8.fnScope nst).names, y.2 = .free → X.env.scope.names.lookup y.1 = some .cell ∨ X.env.scope.names.lookup y.1 = some .free) (hl : ws.length = fr.length) (hfr : ∀ y ∈ fr, (y, NameKind.free) ∈ (C8.fnScope nst).names) (hall : ∀ y ∈ (C8.fnScope nst).names, y.2 = .free → y.1 ∈ fr)
    (hat : ∀ (i : Nat) (y : Str), fr[i]? = some y → X.env.scope.names.lookup y = some .cell ∧ ∃ (j : Nat) (v : V), X.N[j]? = some y ∧ σ[j]? = some (some v) ∧ ws[i]? = some v) :
    CloAt H2 f (NF.of nst name qn (cloFrom X.env.cells (C8.fnScope nst).names []) c) fr ws := by
  have hfx : ∀ y ∈ (C8.fnScope nst).names, y.2 = .free → ∃ a, X.env.cells.lookup y.1 = some a := fun y hy e => (hfree y hy e).elim (fun z => tr.has _ (.inl z)) fun z => tr.has _ (.inr z)
  have cm : ∀ {y : Str} {a : Addr}, (cloFrom X.env.cells (C8.fnScope nst).names []).lookup y = some a → X.env.cells.lookup y = some a := fun e => clo_cm hfx e
  have one : ∀ (i : Nat) (y : Str), fr[i]? = some y → ∃ a v, (cloFrom X.env.cells (C8.fnScope nst).names []).lookup y = some a ∧ ws[i]? = some v ∧ H2 a = some (CellO a v) := fun i y e => by
    obtain ⟨hk, j, v, h1, h2, h3⟩ := hat i y e
    obtain ⟨a, h4, h5⟩ := tr.at_ j y v h1 h2 hk
    exact ⟨a, v, clo_has hfx (hfr y (List.mem_of_getElem? e)) h4, h3, h5⟩
  refine ⟨tr.ex _ _ hf, tr.ex _ _ hc, hl, fun x y a e1 e2 => tr.inj x y a (cm e1) (cm e2), fun y a e => ?_, one⟩
  have hy : y ∈ fr := by
    have e' : (cloFrom X.env.cells (C8.fnScope nst).names []).lookup y = some a := e
    rcases cloFrom_mem (PySem.mem_of_lookup e') with z | ⟨z, _⟩
    · cases z
    · exact hall _ z rfl
  obtain ⟨i, hi⟩ := List.mem_iff_getElem?.mp hy
  obtain ⟨a', v, h1, h2, h3⟩ := one i y hi
  have e2 : a' = a := by
    have e' : (cloFrom X.env.cells (C8.fnScope nst).names []).lookup y = some a := e
    rw [h1] at e'
    exact Option.some.inj e'
  subst e2
  exact ⟨v, h3⟩
theorem cl_cells {X : Cx} {nst : Stmt} {name qn : Str} {c b : Addr} {σ : L2.St} {H1 H2 : Hp} (tr : Tracks X σ H1 H2) (hfree : ∀ y ∈ (C8.fnScope nst).names, y.2 = .free → X.env.scope.names.lookup y.1 = some .cell ∨ X.env.scope.names.lookup y.1 = some .free)
    (h : IsCl (NF.of nst name qn (cloFrom X.env.cells (C8.fnScope nst).names []) c) b) : ∃ y, X.env.cells.lookup y = some b := by
  obtain ⟨y, e⟩ := h
  exact ⟨y, clo_cm (fun y hy e => (hfree y hy e).elim (fun z => tr.has _ (.inl z)) fun z => tr.has _ (.inr z)) e⟩
/-! ### such a choice as a pick -/
theorem CloAt.upN {H H' : Hp} {f : Addr} {F : NF} {fr : List Str} {ws : List V} (h : CloAt H f F fr ws) (e : ExtN H H') : CloAt H' f F fr ws := by
  refine ⟨e _ _ h.fn fun ps z => (by cases z), e _ _ h.co fun ps z => (by cases z), h.len, h.inj, fun y c q => ?_, fun i y q => ?_⟩
  · obtain ⟨v, z⟩ := h.all y c q
    exact ⟨v, e _ _ z fun ps z => (by cases z)⟩
  · obtain ⟨c, v, a, b, z⟩ := h.has i y q
    exact ⟨c, v, a, b, e _ _ z fun ps z => (by cases z)⟩
theorem less_d {F : Hp} {f : Addr} {Fn : NF} {fr : List Str} {ws : List V} (C : CloAt F f Fn fr ws) : ExD F (less F Fn) := fun a o d h => by
  rw [less_out fun z => by
    obtain ⟨v, e⟩ := clo_cell C z
    rw [h] at e
    cases e
    cases d]
  exact h
theorem less_at {H : Hp} {f : Addr} {Fn : NF} {fr : List Str} {ws : List V} (C : CloAt H f Fn fr ws) {a : Addr} {o : HO} (h : H a = some o) (d : isD o = true) : less H Fn a = some o := less_d C a o d h
theorem less_mono {F H : Hp} {Fn : NF} (e : Ex F H) : Ex (less F Fn) (less H Fn) := fun a o h => by
  by_cases z : IsCl Fn a
  · rw [less_in z] at h
    cases h
  · rw [less_out z] at h ⊢
    exact e a o h
theorem back_ex {F H H' : Hp} {Fn : NF} (e : Ex F H) (x : Ex (less F Fn) H') : Ex F (back H Fn H') := fun a o h => by
  by_cases z : IsCl Fn a
  · rw [back_in z]
    exact e a o h
  · rw [back_out z]
    exact x a o (by rw [less_out z]; exact h)
theorem back_at {H H' : Hp} {f : Addr} {Fn : NF} {fr : List Str} {ws : List V} (C : CloAt H f Fn fr ws) {a : Addr} {o u : HO} (h : H a = some u) (d : isD u = true) (k : H' a = some o) : back H Fn H' a = some o := by
  rw [back_out fun z => by
    obtain ⟨v, e⟩ := clo_cell C z
    rw [h] at e
    cases e
    cases d]
  exact k
/-- the heap that holds o at l alone -/
def onl (l : Addr) (o : HO) : Hp := fun a => if a = l then some o else none
theorem onl_ex {l : Addr} {o : HO} {H : Hp} (h : H l = some o) : Ex (onl l o) H := fun a u k => by
  unfold onl at k
  split at k
  · rename_i z
    cases k
    rw [z]
    exact h
  · cases k
theorem onl_at {l : Addr} {o : HO} : onl l o l = some o := if_pos rfl
theorem onl_dis {F : Hp} {l : Addr} {o : HO} (n : F l = none) : Dis F (onl l o) := fun a u k => if_neg (ne_of_none k n)
def pickC (ls : Addr) : Nat → List Int → Hp → Prop := fun i ns M => M ls = some (.lst [.int (i : Int)]) ∧ (i : Int) + weighI ns ≤ 800000
def pickS (cells : List Int) : Nat → List Int → Mv → Prop := fun i ns m => (fitI ns)[(pickJ cells ((i : Int) + 1) (fitI ns).length).toNat]? = some m
theorem pickS_one (cells : List Int) : ∀ i cur m m', pickS cells i cur m → pickS cells i cur m' → m = m' := fun i cur m m' h1 h2 => by
  unfold pickS at h1 h2
  rw [h1] at h2
  exact Option.some.inj h2
section
variable {P : Program} {w : World} {K : PySem.W.Frag} {mg : Str → Option Value} {base : Heap}
theorem pick_call {F H : Hp} {f ls ac lm : Addr} {nst : Stmt} {qn arg : Str} {cl : List (Str × Addr)} {c : Addr} {cells : List Int} {xs : List V} {k : Int} {Q : VK} {E : XK} (C : CloAt F f (pickF nst qn cl c) pickFr [.ref ac, .ref ls]) (e : Ex F H) (n : F ls = none) (nl : lm ≠ ls) (el : H ls = some (.lst [.int k])) (em : H lm = some (.lst xs))
    (x0 : 0 < xs.length) (x1 : xs.length ≤ 1000) (rc : Rp F (.ref ac) (.list (cells.map .int))) (c0 : 0 < cells.length) (c1 : cells.length ≤ 1000) (k0 : 0 ≤ k) (k1 : k ≤ 900000) (q : ∀ H', Ex F H' → H' ls = some (.lst [.int (k + 1)]) → H' lm = some (.lst xs) → Q (.int (pickJ cells (k + 1) xs.length)) H') :
    spC f (pickF nst qn cl c) pickFr spPickB [.ref lm] H Q E := by
  have CH := C.up e
  refine ⟨_, CH, ls, ac, lm, k, xs, cells, less F (pickF nst qn cl c), rfl, rfl, less_mono e, ?_, nl, less_at CH el rfl, less_at CH em rfl, x0, x1, Rp.dmono (less_d C) _ _ rc, c0, c1, k0, k1, fun H' x' e1 e2 _ => ?_⟩
  · cases z : less F (pickF nst qn cl c) ls with
    | none => rfl
    | some o =>
      have := less_ex _ _ z
      rw [n] at this
      cases this
  · exact q _ (back_ex e x') (back_at CH el rfl e1) (back_at CH em rfl e2)
theorem pick_pk {Fi : Hp} {f ls ac : Addr} {nst : Stmt} {qn arg : Str} {cl : List (Str × Addr)} {c : Addr} {cells : List Int} (N : NOk P w K mg base (L2.CX P w) 2 f (pickF nst qn cl c) [arg] pickFr spPickB) (C : CloAt Fi f (pickF nst qn cl c) pickFr [.ref ac, .ref ls]) (n : Fi ls = none)
    (rc : Rp Fi (.ref ac) (.list (cells.map .int))) (c0 : 0 < cells.length) (c1 : cells.length ≤ 1000) : PkOk P w K mg base 3 (.ref f) Fi (pickC ls) (pickS cells) := by
  refine .inr ⟨f, _, rfl, (clo_fr N).mono (by decide), .inr ⟨_, C.fn⟩, fun i ns F M H l xs Q hp hz eFi hC hne eF eM dF rxs el gl ml q => ?_⟩
  obtain ⟨em, hw⟩ := hC
  have eh := eM _ _ em
  have fl : F ls = none := dF.symm em
  have xl : xs.length = (fitI ns).length := by rw [rxs.len, List.length_map]
  have l0 : 0 < (fitI ns).length := List.length_pos_iff.mpr hne
  have w0 := weigh_pos ns fun n hn => (pile_in hp n hn).1
  refine pick_call (arg := arg) (C.up eFi) eF fl (fun z => by rw [z, em] at ml; cases ml) eh el (by omega) (by have := fit_len ns; omega) (rc.up eFi) c0 c1 (by omega) (by omega) fun H' x' e1 e2 => ?_
  rw [xl]
  obtain ⟨j0, j1⟩ := pickJ_in cells ((i : Int) + 1) l0
  have jn : (pickJ cells ((i : Int) + 1) (fitI ns).length).toNat < (fitI ns).length := by omega
  have key := q (pickJ cells ((i : Int) + 1) (fitI ns).length).toNat _ H' (onl ls (.lst [.int ((i : Int) + 1)])) (List.getElem?_eq_getElem jn) (List.getElem?_eq_getElem jn) x' (onl_ex e1) (onl_dis fl) ⟨by rw [onl_at]; rfl, ?_⟩
  · rw [Int.toNat_of_nonneg j0] at key
    exact key
  · obtain ⟨h1, h2⟩ := fit_mem.mp (List.getElem_mem jn)
    obtain ⟨g1, g2⟩ := (mem_moves (pile_in hp) _).mp h1
    have := weigh_less (pile_in hp _ g1).1 g1 g2
    omega
end
/-! ### the last one -/
def rLLast : List PyData → Out → Prop := fun ds o => ∃ l : List PyData, ds = [.list l] ∧ o = .val (.int ((l.length : Int) - 1))
section
variable {P : Program} {w : World} {K : PySem.W.Frag} {mg : Str → Option Value} {base : Heap}
theorem last_pk {f : Addr} (N : Fr_ P w K mg base 3 f (spO rLLast)) (kp : PySem.W.keepIn K (.ref f) = true) : PkOk P w K mg base 3 (.ref f) (fun _ => none) (fun _ _ _ => True) (fun _ _ _ => True) := by
  refine .inr ⟨f, _, rfl, N, .inl kp, fun i ns F M H l xs Q hp hz eFi hC hne eF eM dF rxs el gl ml q => ?_⟩
  have l0 : 0 < (fitI ns).length := List.length_pos_iff.mpr hne
  have jn : (fitI ns).length - 1 < (fitI ns).length := by omega
  refine ⟨upd F l (.lst xs), [.list ((fitI ns).map mvD)], _, upd_ex eF el, .cons (.lst upd_same (rxs.up (Ex.new gl))) .nil, ⟨_, rfl, rfl⟩, fun v G' H' p r => ?_⟩
  cases r
  have key := q ((fitI ns).length - 1) _ H' M (List.getElem?_eq_getElem jn) trivial (eF.trans p.old) (eM.trans p.old) dF trivial
  rw [List.length_map, show (((fitI ns).length : Nat) : Int) - 1 = (((fitI ns).length - 1 : Nat) : Int) by omega]
  exact key
theorem none_pk : PkOk P w K mg base 3 .non (fun _ => none) (fun _ _ _ => True) (fun _ ns m => (fitI ns)[0]? = some m) := .inl ⟨rfl, fun _ _ _ _ _ => trivial, fun _ _ _ h => h⟩
end
/-! ### a value that is new, if it stands in the heap -/
def WantW (o : Out) (G H : Hp) (Q : VK) (E : XK) : Prop := match o with
  | .val d => ∀ v G' H', Part G H G' H' → Rp G' v d → (∀ p, v = .ref p → G p = none) → Q v H'
  | .err C => ∀ H', Ex H H' → E (.ref C) none H'
def spW (r : List PyData → Out → Prop) : Sp := fun vs H Q E => ∃ G ds o, Ex G H ∧ RpA G vs ds ∧ r ds o ∧ WantW o G H Q E
section
variable {P : Program} {w : World} {K : PySem.W.Frag} {mg : Str → Option Value} {base : Heap} {x : Str} {ps N : List Str} {st : Stmt} {k : Nat} {f : Addr}
theorem Has.plainW {r : List PyData → Out → Prop} (h : Has P w K mg base x ps k (spW r)) : Has P w K mg base x ps k (spO r) := by
  obtain ⟨f, fd, h1, h2, h3, h4⟩ := h.ex
  refine ⟨f, fd, h1, h2, h3, h4.imp ?_⟩
  rintro vs H Q E ⟨G, ds, o, e, rp, hr, q⟩
  refine ⟨G, ds, o, e, rp, hr, ?_⟩
  cases o with
  | val d => exact fun p G' H' P r _ => q _ G' H' P r
  | err C => exact q
end
section
variable {K : PySem.W.Frag} {σ : L2.St} {G G0 H H0 : Hp} {te : TE} {D : Ends} {E : XK} {ns : List Int} {d : PyData}
/-- return tuple(a list), new, its object known -/
theorem d_retTupF (P : Part G0 H0 G H) (h : EvD te σ G (.list (ns.map .int))) (q : WantW (.val (frzD ns)) G0 H0 D.rt E) : tRet (tThen te (LmFrz.kTupF K)) D σ H := h H P.sub _ fun v G1 H1 p r => by
  cases r with
  | lst a b =>
    have pz := P.trans p
    refine ⟨_, _, rfl, .inl (.inl (p.sub _ _ a)), fun l o n hd => q _ _ _ (pz.add n) (frz_new (H' := H1) b hd) fun p e => ?_⟩
    cases e
    exact fresh_back (pz.ext.trans pz.sub) n
theorem d_retW (P : Part G0 H0 G H) (h : EvD te σ G d) (n : ∀ a, d ≠ .list a) (n2 : ∀ a, d ≠ .tuple a) (n3 : ∀ a, d ≠ .dict a) (q : WantW (.val d) G0 H0 D.rt E) : tRet te D σ H := h H P.sub _ fun v G1 H1 p r =>
  q v G1 H1 (P.trans p) r fun a e => by
    subst e
    cases r with
    | lst _ _ => exact absurd rfl (n _)
    | tup _ _ => exact absurd rfl (n2 _)
    | dic _ => exact absurd rfl (n3 _)
    | obj _ => exact absurd rfl (n3 _)
    | frz _ _ _ => exact absurd rfl (n3 _)
end
def dueF (ns : List Int) (m : Mv) : PyData := if m ∈ movesI ns then frzD (afterI ns m) else .none
def rLAfterF : List PyData → Out → Prop := fun ds o => ∃ ns m, ds = [.tuple (ns.map .int), mvD m] ∧ (∀ n ∈ ns, 0 ≤ n ∧ n ≤ 99) ∧ ns.length ≤ 1000 ∧ o = .val (dueF ns m)
theorem eqv_mvs2 : ∀ ms ms' : List Mv, PyData.eqv (.list (ms.map mvD)) (.list (ms'.map mvD)) = decide (ms = ms')
  | [], [] => by rw [decide_eq_true rfl]; rfl
  | [], m :: r => by rw [decide_eq_false (by simp)]; rfl
  | m :: r, [] => by rw [decide_eq_false (by simp)]; rfl
  | m :: r, m' :: r' => by
    show (PyData.eqv (mvD m) (mvD m') && PyData.eqv (.list (r.map mvD)) (.list (r'.map mvD))) = _
    rw [eqv_mv, eqv_mvs2 r r', Bool.eq_iff_iff, Bool.and_eq_true, decide_eq_true_eq, decide_eq_true_eq, decide_eq_true_eq, List.cons.injEq]
/-! ### a choice that looks at what it is handed -/
section
variable {K : PySem.W.Frag} {σ : L2.St} {H Hc : Hp} {ta te : TE} {t : TT} {D : Ends} {tz : TS}
theorem et_upw {b : Bool} {G H : Hp} (h : EvT t σ G b) (x : Ex G H) : EvT t σ H b := fun H1 e Q q => h H1 (x.trans e) Q q
/-- if t: x.append(e) -/
theorem q_ifApp {b : Bool} {l : Addr} {xs : List V} {v : V} (h : EvT t σ H b) (hl : H l = some (.lst xs)) (ha : Ev ta σ H (.ref l)) (hv : Ev te σ H v) (hz : xs.length < 100000) (k : ∀ H1, Ex (rem H l) H1 → H1 l = some (.lst (if b = true then xs ++ [v] else xs)) → tz D σ H1) :
    tSeq (tIfS t (tDrop (tBM K "list" rAppend ta (tCons te tNil))) tNext) tz D σ H := by
  refine h H (Ex.refl H) _ fun H1 x1 => ?_
  cases b with
  | false =>
    rw [if_neg (by decide)]
    refine k H1 (rem_ex.trans x1) ?_
    rw [if_neg (by decide)]
    exact x1 _ _ hl
  | true =>
    rw [if_pos rfl]
    refine s_app (x1 _ _ hl) (fun H2 e => ha H2 (x1.trans e)) (fun H2 e => hv H2 (x1.trans e)) hz fun H2 x2 => ?_
    refine k _ (ex_mut (rem_ex.trans (x1.trans x2)) rem_at) ?_
    rw [if_pos rfl]
    exact upd_same
end
abbrev watchFr : List Str := ["_law_bad", "_law_held", "_law_choose"]
/-- what is its own: the state, the pile, what it found -/
structure WatchAt (H : Hp) (ls lh lb p : Addr) (o : Obj) (k : Int) (ns : List Int) (bs : List V) : Prop where
  s : H ls = some (.lst [.int k])
  h : H lh = some (.lst [.ref p])
  b : H lb = some (.lst bs)
  p : H p = some (.frz o (.tup (ns.map V.int)))
  d : o.dict = none
def badV (ns : List Int) (bs : List V) : List V := if (!decide (fitI ns = movesI ns)) = true then bs ++ [.int 1] else bs
def spWatchB (nst : Stmt) (qn : Str) : List (Option V) → Sp := fun ws vs H Q _ => ∃ (ls lh lb fc ac lm p c : Addr) (o : Obj) (k : Int) (ns cells : List Int) (bs xs : List V) (cl : List (Str × Addr)) (F : Hp), ws = [some (.ref lb), some (.ref lh), some (.ref fc)] ∧ vs = [.ref lm] ∧ Ex F H ∧
  (F ls = none ∧ F lh = none ∧ F lb = none ∧ F lm = none) ∧ (ls ≠ lh ∧ ls ≠ lb ∧ lh ≠ lb ∧ lm ≠ ls ∧ lm ≠ lh ∧ lm ≠ lb) ∧ WatchAt H ls lh lb p o k ns bs ∧ H lm = some (.lst xs) ∧ CloAt F fc (pickF nst qn cl c) pickFr [.ref ac, .ref ls] ∧
  (Rp F (.ref ac) (.list (cells.map .int)) ∧ 0 < cells.length ∧ cells.length ≤ 1000) ∧ (pileI ns = true ∧ ns.length ≤ 126 ∧ fitI ns ≠ []) ∧ RpA F xs ((fitI ns).map mvD) ∧ (0 ≤ k ∧ k ≤ 50000 ∧ (bs.length : Int) ≤ k) ∧
  ∀ (m : Mv) (p' : Addr) (o' : Obj) (H' : Hp), (fitI ns)[(pickJ cells (k + 1) (fitI ns).length).toNat]? = some m → Ex F H' → WatchAt H' ls lh lb p' o' (k + 1) (afterI ns m) (badV ns bs) → F p' = none → Q (.int (pickJ cells (k + 1) (fitI ns).length)) H'
def spMkWatched (T : List NTab) (nst : Stmt) (qn : Str) (nst2 : Stmt) (qn2 : Str) : Sp := fun vs H Q _ => ∃ (p ac lb : Addr), vs = [.ref p, .ref ac, .ref lb] ∧ TabsN T H ∧ ∀ f ls lh fc cl c cl2 c2 H', ExtN H H' → (∀ b, H' b = none → H b = none) → TabsN T H' → CloAt H' fc (pickF nst qn cl c) pickFr [.ref ac, .ref ls] →
  CloAt H' f (pickF nst2 qn2 cl2 c2) watchFr [.ref lb, .ref lh, .ref fc] → H' ls = some (.lst [.int 0]) → H' lh = some (.lst [.ref p]) → ls ≠ lh → H ls = none → H lh = none → (∀ b, IsCl (pickF nst2 qn2 cl2 c2) b → b ≠ fc ∧ b ≠ c ∧ ¬ IsCl (pickF nst qn cl c) b) → Q (.ref f) H'
theorem lst_ne {H : Hp} {a b : Addr} {xs : List V} {o : Obj} {u : HO} (h1 : H a = some (.lst xs)) (h2 : H b = some (.frz o u)) : a ≠ b := fun z => by
  rw [z, h2] at h1
  cases h1
/-! ### .. as a pick -/
structure WatchC (Fi M : Hp) (ls lh lb : Addr) (i : Nat) (ns : List Int) (p : Addr) (o : Obj) (bs : List V) : Prop where
  s : M ls = some (.lst [.int (i : Int)])
  h : M lh = some (.lst [.ref p])
  b : M lb = some (.lst bs)
  p : Fi p = some (.frz o (.tup (ns.map V.int))) ∨ M p = some (.frz o (.tup (ns.map V.int)))
  d : o.dict = none
  l : bs.length ≤ i
  w : (i : Int) + weighI ns ≤ 40000
  ok : worthI ns < fw 100 → bs = []
def watchC (Fi : Hp) (ls lh lb : Addr) : Nat → List Int → Hp → Prop := fun i ns M => ∃ p o bs, WatchC Fi M ls lh lb i ns p o bs
theorem badV_len (ns : List Int) (bs : List V) : (badV ns bs).length ≤ bs.length + 1 := by
  unfold badV
  split
  · rw [List.length_append]
    exact Nat.le_refl _
  · omega
theorem badV_ok {ns : List Int} {bs : List V} (h : fitI ns = movesI ns) : badV ns bs = bs := by
  unfold badV
  rw [decide_eq_true h]
  rfl
/-- three lists and a tuple -/
def own4 (ls lh lb p : Addr) (os oh ob op : HO) : Hp := upd (upd (upd (onl p op) lb ob) lh oh) ls os
section
variable {P : Program} {w : World} {K : PySem.W.Frag} {mg : Str → Option Value} {base : Heap}
theorem watch_pk {Fi : Hp} {f fc ls lh lb ac c c2 : Addr} {nst nst2 : Stmt} {qn qn2 arg : Str} {cl cl2 : List (Str × Addr)} {cells : List Int} (N : NOk P w K mg base (L2.CX P w) 3 f (pickF nst2 qn2 cl2 c2) [arg] watchFr (spWatchB nst qn)) (C : CloAt Fi fc (pickF nst qn cl c) pickFr [.ref ac, .ref ls])
    (C2 : CloAt Fi f (pickF nst2 qn2 cl2 c2) watchFr [.ref lb, .ref lh, .ref fc]) (ncl : ∀ b, IsCl (pickF nst2 qn2 cl2 c2) b → b ≠ fc ∧ b ≠ c ∧ ¬ IsCl (pickF nst qn cl c) b) (n : Fi ls = none ∧ Fi lh = none ∧ Fi lb = none) (ne : ls ≠ lh ∧ ls ≠ lb ∧ lh ≠ lb)
    (rc : Rp Fi (.ref ac) (.list (cells.map .int))) (c0 : 0 < cells.length) (c1 : cells.length ≤ 1000) : PkOk P w K mg base 3 (.ref f) Fi (watchC Fi ls lh lb) (pickS cells) := by
  refine .inr ⟨f, _, rfl, clo_fr N, .inr ⟨_, C2.fn⟩, fun i ns F M H l xs Q hp hz eFi hC hne eF eM dF rxs el gl ml q => ?_⟩
  obtain ⟨p, o, bs, W⟩ := hC
  have CH := (C2.up eFi).up eF
  have CF := C2.up eFi
  have fl : F ls = none := dF.symm W.s
  have fh : F lh = none := dF.symm W.h
  have fb : F lb = none := dF.symm W.b
  have hs := eM _ _ W.s
  have hh := eM _ _ W.h
  have hb := eM _ _ W.b
  have hpp : H p = some (.frz o (.tup (ns.map V.int))) := W.p.elim (fun z => eF _ _ (eFi _ _ z)) fun z => eM _ _ z
  have nm : ∀ {a : Addr} {u : HO}, M a = some u → l ≠ a := fun {a u} h z => by
    rw [z, h] at ml
    cases ml
  have none_less : ∀ {a : Addr}, F a = none → less F (pickF nst2 qn2 cl2 c2) a = none := fun {a} h => fresh_back less_ex h
  have Cl : CloAt (less F (pickF nst2 qn2 cl2 c2)) fc (pickF nst qn cl c) pickFr [.ref ac, .ref ls] := by
    have C' := C.up eFi
    have lo : ∀ {a : Addr} {u : HO}, F a = some u → ¬ IsCl (pickF nst2 qn2 cl2 c2) a → less F (pickF nst2 qn2 cl2 c2) a = some u := fun {a u} h z => by
      rw [less_out z]
      exact h
    have nc : ∀ y b, (pickF nst qn cl c).cl.lookup y = some b → ¬ IsCl (pickF nst2 qn2 cl2 c2) b := fun y b e z => (ncl b z).2.2 ⟨y, e⟩
    refine ⟨lo C'.fn fun z => (ncl _ z).1 rfl, lo C'.co fun z => (ncl _ z).2.1 rfl, C'.len, C'.inj, fun y b e => ?_, fun j y e => ?_⟩
    · obtain ⟨v, z⟩ := C'.all y b e
      exact ⟨v, lo z (nc y b e)⟩
    · obtain ⟨b, v, h1, h2, h3⟩ := C'.has j y e
      exact ⟨b, v, h1, h2, lo h3 (nc y b h1)⟩
  have w0 := weigh_pos ns fun n hn => (pile_in hp n hn).1
  have l1 := W.l
  have l2 := W.w
  refine ⟨_, CH, ls, lh, lb, fc, ac, l, p, c, o, (i : Int), ns, cells, bs, xs, cl, less F (pickF nst2 qn2 cl2 c2), rfl, rfl, less_mono eF, ⟨none_less fl, none_less fh, none_less fb, none_less gl⟩, ⟨ne.1, ne.2.1, ne.2.2, nm W.s, nm W.h, nm W.b⟩,
    ⟨less_at CH hs rfl, less_at CH hh rfl, less_at CH hb rfl, less_at CH hpp rfl, W.d⟩, less_at CH el rfl, Cl, ⟨Rp.dmono (less_d CF) _ _ (rc.up eFi), c0, c1⟩, ⟨hp, hz, hne⟩, RpA.dmono (less_d CF) _ _ rxs, ⟨by omega, by omega, by omega⟩, fun m p' o' H' hmj x' W' np free => ?_⟩
  have l0 : 0 < (fitI ns).length := List.length_pos_iff.mpr hne
  obtain ⟨j0, j1⟩ := pickJ_in cells ((i : Int) + 1) l0
  obtain ⟨hm1, hm2⟩ := fit_mem.mp (List.mem_of_getElem? hmj)
  obtain ⟨g1, g2⟩ := (mem_moves (pile_in hp) _).mp hm1
  have wl := weigh_less (pile_in hp _ g1).1 g1 g2
  have wk := worth_keeps (pile_in hp _ g1).1 g1 g2
  have ncp : ¬ IsCl (pickF nst2 qn2 cl2 c2) p' := fun z => by
    have k := free p' z
    rw [W'.p] at k
    cases k
  have fp : F p' = none := by
    rw [less_out ncp] at np
    exact np
  have nps : p' ≠ ls := (lst_ne W'.s W'.p).symm
  have nph : p' ≠ lh := (lst_ne W'.h W'.p).symm
  have npb : p' ≠ lb := (lst_ne W'.b W'.p).symm
  have key := q (pickJ cells ((i : Int) + 1) (fitI ns).length).toNat m (back H (pickF nst2 qn2 cl2 c2) H') (own4 ls lh lb p' (.lst [.int ((i : Int) + 1)]) (.lst [.ref p']) (.lst (badV ns bs)) (.frz o' (.tup ((afterI ns m).map V.int)))) hmj hmj (back_ex eF x') ?_ ?_ ⟨p', o', badV ns bs, ?_, ?_, ?_, .inr ?_, W'.d, ?_, ?_, ?_⟩
  · rw [Int.toNat_of_nonneg j0] at key
    exact key
  · unfold own4
    refine upd_ex (upd_ex (upd_ex (onl_ex ?_) (back_at CH hb rfl W'.b)) (back_at CH hh rfl W'.h)) (back_at CH hs rfl W'.s)
    rw [back_out ncp]
    exact W'.p
  · intro a u h
    unfold own4
    rw [upd_ne (ne_of_none h fl), upd_ne (ne_of_none h fh), upd_ne (ne_of_none h fb)]
    exact onl_dis fp a u h
  · unfold own4
    rw [upd_same]
    rfl
  · unfold own4
    rw [upd_ne ne.1.symm, upd_same]
  · unfold own4
    rw [upd_ne ne.2.1.symm, upd_ne ne.2.2.symm, upd_same]
  · unfold own4
    rw [upd_ne nps, upd_ne nph, upd_ne npb, onl_at]
  · have := badV_len ns bs
    omega
  · show (((i + 1 : Nat) : Int)) + weighI (afterI ns m) ≤ 40000
    omega
  · intro hw
    rw [wk] at hw
    rw [badV_ok (fit_all hp hw)]
    exact W.ok hw
end
theorem CloAt.upX {H H' : Hp} {f : Addr} {F : NF} {fr : List Str} {ws : List V} (h : CloAt H f F fr ws) (e : ∀ a φ, H a = some (.ext φ) → H' a = some (.ext φ)) : CloAt H' f F fr ws := by
  refine ⟨e _ _ h.fn, e _ _ h.co, h.len, h.inj, fun y c q => ?_, fun i y q => ?_⟩
  · obtain ⟨v, z⟩ := h.all y c q
    exact ⟨v, e _ _ z⟩
  · obtain ⟨c, v, a, b, z⟩ := h.has i y q
    exact ⟨c, v, a, b, e _ _ z⟩
theorem tabs_sub {T : List NTab} {H H' : Hp} (t : TabsN T H) (e : ∀ a o, H a = some o → (∀ xs, o ≠ .lst xs) → H' a = some o) : TabsN T H' := fun p hp => by
  obtain ⟨ps, h1, h2, h3⟩ := t p hp
  refine ⟨ps, e _ _ h1 fun xs z => (by cases z), h2, fun pos cv hc => ?_⟩
  obtain ⟨c, e1, e2⟩ := h3 pos cv hc
  exact ⟨c, e1, e _ _ e2 fun xs z => (by cases z)⟩
theorem Rp.frz_inv {G : Hp} {v : V} {ns : List Int} (h : Rp G v (frzD ns)) : ∃ p o, v = .ref p ∧ G p = some (.frz o (.tup (ns.map V.int))) ∧ o.dict = none := by
  cases h with
  | @frz a o ms _ x y z =>
    have e : ms = ns := by
      have := congrArg (List.map toI) z
      rw [toI_map, toI_map] at this
      exact this.symm
    subst e
    exact ⟨a, o, rfl, x, y⟩
theorem Rp.lst_inv {G : Hp} {v : V} {ds : List PyData} (h : Rp G v (.list ds)) : ∃ a xs, v = .ref a ∧ G a = some (.lst xs) ∧ RpA G xs ds := by
  cases h with
  | lst a b => exact ⟨_, _, rfl, a, b⟩
/-- three lists apart -/
def three3 (H : Hp) (a b c : Addr) : Hp := fun x => if x = a ∨ x = b ∨ x = c then H x else none
theorem three_ex {H : Hp} {a b c : Addr} : Ex (three3 H a b c) H := fun x o h => by
  unfold three3 at h
  split at h
  · exact h
  · cases h
theorem three_in {H : Hp} {a b c x : Addr} (h : x = a ∨ x = b ∨ x = c) : three3 H a b c x = H x := if_pos h
theorem off3 {H : Hp} {a b c x : Addr} {o : HO} (h : H x = some o) (n1 : x ≠ a) (n2 : x ≠ b) (n3 : x ≠ c) : off H (three3 H a b c) x = some o := by
  rw [off_at (by unfold three3; rw [if_neg (by simp [n1, n2, n3])])]
  exact h
theorem off3_none {H : Hp} {a b c x : Addr} {o : HO} (h : x = a ∨ x = b ∨ x = c) (e : H x = some o) : off H (three3 H a b c) x = none := by
  have : three3 H a b c x = some o := (three_in h).trans e
  unfold off
  rw [this]
/-! ### settled, tried -/
def setT (ns : List Int) : PyData := if worthI ns < fw 100 then .tuple ((rowI (worthI ns)).map .int) else .str "TooGreat"
section
variable {P : Program} {w : World} {K : PySem.W.Frag} {mg : Str → Option Value} {base : Heap} {R : ErrTxt K mg} {σ : L2.St} {G H : Hp} {tf tl : TE} {fs : Addr} {ns : List Int}
theorem ed_settle {C : Nat → List Int → Hp → Prop} {S : Nat → List Int → Mv → Prop} {rest : List PyData} {pk : V} (hf : EvD tf σ G (opq fs)) (hl : EvD tl σ G (.list (.tuple (ns.map .int) :: rest))) (F : Fr_ P w K mg base 6 fs (dflS 2 (spSettled P w K mg base 3 (R.c 0) (R.c 3)))) (kp : PySem.W.keepIn K (.ref fs) = true)
    (hr : (rest = [] ∧ pk = .non) ∨ ∃ f, rest = [opq f] ∧ pk = .ref f) (hK : PkOk P w K mg base 3 pk (fun _ => none) C S) (hC : ∀ i ns M, C i ns M) (hp : pileI ns = true) (hz : ns.length ≤ 126) :
    EvD (tCall (spT P w base R 6) [] E0 (tCons tf (tCons tl tNil))) σ G (setT ns) := fun H x Q q =>
  hf H x _ fun v G1 H1 p r => (hl.mono p.ext) H1 p.sub _ fun u G2 H2 p2 r2 => by
    cases r
    cases r2 with
    | @lst a xs _ e b =>
      have pz := p.trans p2
      have go : ∀ (v : V) H3, Ex H2 H3 → Rp G2 v (.tuple (ns.map .int)) → spSettled P w K mg base 3 (R.c 0) (R.c 3) [v, pk] H3 (fun v H' => ∀ H2, Ex H' H2 → Q v H2) fun cls d H' => ∃ i, i < 6 ∧ cls = .ref (R.c i) ∧ d = none ∧ ∀ H2, Ex H' H2 → Q (.str (errName i)) H2 := fun v H3 x3 rv => by
        refine .inr ⟨G2, fun _ => none, ns, v, pk, fun _ => none, C, S, rfl, pz.sub.trans x3, (fun _ _ h => by cases h), fun _ _ _ => rfl, rv, hp, hz, hK, (fun _ _ h => by cases h), hC _ _ _, fun hw ms v2 F' H' M' path he PF _ _ _ _ r2 H4 x4 => ?_, fun hw H' x' => ⟨3, by decide, rfl, rfl, fun H4 x4 => ?_⟩⟩
        · refine q v2 F' H4 (((pz.on x3).trans PF).on x4) ?_
          unfold setT
          rw [if_pos hw, ← (path_end hp (by omega) path he).2]
          exact r2
        · refine q _ G2 H4 (pz.on (x3.trans (Ex.trans x' x4))) ?_
          unfold setT
          rw [if_neg (by omega)]
          exact .str _
      refine ⟨fs, _, a, xs, rfl, pz.sub _ _ e, ?_, F, .inl kp, fun H3 x3 => ?_⟩
      · rw [b.len, List.length_cons]
        rcases hr with ⟨rfl, _⟩ | ⟨f, rfl, _⟩
        · exact .inl rfl
        · exact .inr rfl
      · rcases hr with ⟨rfl, rfl⟩ | ⟨f, rfl, rfl⟩
        · obtain ⟨v, rfl, rv⟩ := one b
          exact .inl ⟨rfl, go v H3 x3 rv⟩
        · obtain ⟨v, u, rfl, rv, ru⟩ := two b
          cases ru
          exact .inr ⟨rfl, go v H3 x3 rv⟩
/-- a deed tried, by what comes of it -/
theorem spT_of {k : Nat} {f a : Addr} {sp : Sp} {xs : List V} {Rl : V → Hp → Prop} {Q : VK} {E : XK} (ha : H a = some (.lst xs)) (hl : xs.length = 1 ∨ xs.length = 2) (F : Fr_ P w K mg base k f sp) (kp : PySem.W.keepIn K (.ref f) = true)
    (h : ∀ H1, Ex H H1 → sp xs H1 (fun v H' => ∀ H2, Ex H' H2 → Rl v H2) fun cls d H' => ∃ i, i < 6 ∧ cls = .ref (R.c i) ∧ d = none ∧ ∀ H2, Ex H' H2 → Rl (.str (errName i)) H2) (k1 : ∀ v H', Rl v H' → Q v H') : spT P w base R k [.ref f, .ref a] H Q E :=
  ⟨f, upS sp, a, xs, rfl, ha, hl, fr_up F, .inl kp, fun H1 x1 => ⟨_, _, h H1 x1, fun v H' q H2 x2 => k1 v H2 (q H2 x2), fun c d H' ⟨i, hi, hc, hd, q⟩ => ⟨i, hi, hc, hd, fun H2 x2 => k1 _ H2 (q H2 x2)⟩⟩⟩
end
/-- a law's own look at a pile settled thrice -/
def spGood (K : PySem.W.Frag) (T : List NTab) : Sp := fun vs H Q _ => ∃ (F : Hp) (ns cells : List Int) (vp vc : V), vs = [vp, vc] ∧ Ex F H ∧ DatH F ∧ TabsN T H ∧ Rp F vp (frzD ns) ∧ pileI ns = true ∧ ns.length ≤ 126 ∧ Rp F vc (.list (cells.map .int)) ∧ 0 < cells.length ∧ cells.length ≤ 1000 ∧ ∀ H', Ex F H' → TabsN T H' → Q (.bl true) H'
def spLawT (K : PySem.W.Frag) (T : List NTab) : Sp := fun vs H Q _ => ∃ (a : Addr) (ns : List Int), vs = [.ref a] ∧ SqL K H a (ns.map V.int) ∧ ns.length ≤ 63 ∧ TabsN T H ∧ ∀ H', Q (.bl true) H'
end Lm

set_option maxHeartbeats 2000000
/-! except (A, B): two own classes, no name. -/
namespace LmTwo
open PySem PySem.Spec PyProof.Rows L2 LmExc
/-- what the clause wishes of an error of the body -/
def wTwo (K : PySem.W.Frag) (c1 c2 : Value) (ts : TS) (D : Ends) : WX := fun cls d σ H =>
  ∃ C, cls = .ref C ∧ d = none ∧ PySem.W.exmAny K cls [c1, c2] = some true ∧ ts D σ H
theorem flying_push {B h : Heap} {l : List Env} {e : Addr} {Z : Obj → Prop} {o : Obj} (f : HandSPX.FlyingZ B l e Z h) : HandSPX.FlyingZ B l e Z (h.push o) := by
  obtain ⟨h1, h2, h3, oe, vs, T, oT, ts, a1, a2, a3, a4, a5, a6, a7, a8, a9⟩ := f
  exact ⟨fun b u z => Heap.get?_push_of_some o (h1 b u z), h2, h3.of_keeps fun b u z _ => ⟨u, Heap.get?_push_of_some o z, rfl⟩, oe, vs, T, oT, ts, Heap.get?_push_of_some o a1, a2, a3, a4, a5, a6, Heap.get?_push_of_some o a7, a8, a9⟩
section
variable {X : Cx} {x1 x2 : Str} {c1 c2 : Value} {body suite : List Stmt} {b₀ : Stmt} {n0 : Nat} {np np1 np2 pos pos' : Pos} {tb : WX → TS} {ts : TS}
theorem ps_try_two (hs : X.stack = X.env :: X.outer) (hf : X.env.frame = some X.env.locals) (hc1 : Names X x1 c1) (hc2 : Names X x2 c2)
    (hb : ∀ (W : WX) (pn : List (Addr × Obj)) (xe : Value → Shared → Prop), Takes (X.tr pn xe) W → PassesOwn (model X.prog X.w) X.A X.env xe → PSs (X.tr pn xe) body (tb W))
    (hsu : ∀ (a : Addr) (pn : List (Addr × Obj)), PSs (X.suite a pn) (b₀ :: suite) ts) :
    PS X (.Try body [.ExceptHandler (some (.Tuple [.Name x1 np1, .Name x2 np2] n0 np)) none (b₀ :: suite) pos'] [] [] pos) (fun D σ H => tb (wTwo X.K c1 c2 ts D) D σ H) := by
  refine ⟨fun pins s σ H D I h => ?_⟩
  have ok := I.ok
  have hfr : X.A.frames = some (X.env :: X.outer) := by rw [ok.frames, hs]
  refine wpAny_Try_except ?_
  have run := (hb (wTwo X.K c1 c2 ts D) (X.pn ++ pins) (fun e q1 => wpAny (model X.prog X.w) X.A (noteFrame e X.env) (fun _ q2 => wpAny (model X.prog X.w) X.A (setFlight e none) (fun _ q3 =>
    wpAny (model X.prog X.w) X.A (handleBy e X.env [.ExceptHandler (some (.Tuple [.Name x1 np1, .Name x2 np2] n0 np)) none (b₀ :: suite) pos']) (SP X pins D) X.xe q3) X.xe q2) X.xe q1) (fun u s' xx => ?_) PassesOwn.looking).run [] s σ H D (I.toTry _) h
  · refine wpAny_mono run (fun f q hsp => ?_) (fun _ _ z => z)
    cases f with
    | next =>
      obtain ⟨σ2, H2, J, q⟩ := hsp
      exact wpAny_execs_nil ⟨σ2, H2, J.ofTry ok, q⟩
    | brk =>
      obtain ⟨σ2, H2, J, q⟩ := hsp
      exact ⟨σ2, H2, J.ofTry ok, q⟩
    | cont =>
      obtain ⟨σ2, H2, J, q⟩ := hsp
      exact ⟨σ2, H2, J.ofTry ok, q⟩
    | ret u =>
      obtain ⟨v, σ2, H2, J, r, q⟩ := hsp
      exact ⟨v, σ2, H2, J.ofTry ok, r, q⟩
  · obtain ⟨a, B, sI, pins2, σ2, H2, cls, d, rfl, J0, nb, up, sky, na, os, ag, C, ecls, ed, hm, go⟩ := xx
    subst ecls ed
    have J : Inv X pins σ2 H2 sI := J0.ofTry ok
    have sky2 : Sky B (X.env :: X.outer) a (Zc (.ref C) none) X.env.locals s'.heap := by rw [← hs]; exact sky
    show wpAny (model X.prog X.w) X.A (noteFrame (.ref a) X.env) _ _ _
    refine Sky.land Zc.steady hfr hf sky2 fun h3 fl3 up3 => ?_
    have J3 : Inv X pins σ2 H2 { s' with heap := h3 } := J.landed nb fl3.1 (up.trans up3) os ag
    obtain ⟨oe3, vs3, he3, hz3, hd3⟩ := fl3.there
    have S3 := toSuite J3 a
    have test : ∀ {x : Str} {c : Value} {np : Pos} (hc : Names X x c) {Q : Value → Shared → Prop} {E : Value → Shared → Prop}, Q c { s' with heap := h3 } → wpAny (model X.prog X.w) (X.A.mark (some (.ref a))) (eval (.Name x np) X.env) Q E { s' with heap := h3 } := fun {x c np} hc {Q E} q => by
      obtain ⟨hg, hdbg, k | ⟨k, kv, kn⟩⟩ := hc
      · exact ld_glob (X := X.suite a (X.pn ++ pins)) S3 hg k q hdbg
      · exact ld_blt (X := X.suite a (X.pn ++ pins)) S3 hg k kv q kn hdbg
    refine wpAny_handleBy_cons (codeAny_handlers_test (wpAny_Tuple_spliced (wpAny_items_cons (test hc1 (wpAny_items_cons (test hc2 ?_)))))) (by intro q; cases q)
    refine wpAny_pure ⟨by show 2 ≤ sizeLine; decide, ?_⟩
    have fl3' := flying_push (o := { cls := Value.type "tuple", data := Data.seq [c1, c2].toArray }) fl3
    have upP : h3.UpToSlots (h3.push { cls := Value.type "tuple", data := Data.seq [c1, c2].toArray }) := fun b o e _ => ⟨o.slots, Heap.get?_push_of_some _ e⟩
    have J3' : Inv X pins σ2 H2 { s' with heap := h3.push { cls := Value.type "tuple", data := Data.seq [c1, c2].toArray } } := J.landed nb fl3'.1 ((up.trans up3).trans upP) os ag
    have tget : (h3.push { cls := Value.type "tuple", data := Data.seq [c1, c2].toArray }).get? h3.objs.size = some { cls := Value.type "tuple", data := Data.seq [c1, c2].toArray } := Heap.get?_push_size _ rfl
    have LT : PySem.W.Looks (model X.prog X.w) (h3.push { cls := Value.type "tuple", data := Data.seq [c1, c2].toArray }) (typeOf (.ref a)) (.ref C) := fun A Q E s k q => wpAny_typeOf_ref (k _ _ (Heap.get?_push_of_some _ he3)) (by rw [hz3.1]; exact q)
    have LM := PySem.W.exm_tup2 (M := model X.prog X.w) J3'.kIn LT tget hm
    refine LM.here (codeAny_handlers_suite ?_)
    refine HandSPX.lands_againZ fl3' fun h4 fl4 up4 => ?_
    have J4 : Inv X pins σ2 H2 { s' with heap := h4 } := J.landed nb fl4.1 (((up.trans up3).trans upP).trans up4) os ag
    refine wpAny_mono ((hsu a (X.pn ++ pins)).run [] _ _ _ _ (toSuite J4 a) go) (fun f s6 hsp => ?_) (fun _ _ z => False.elim z)
    cases f with
    | next =>
      obtain ⟨σ6, H6, S6, q6⟩ := hsp
      exact ⟨σ6, H6, ofSuite S6 ok, q6⟩
    | brk =>
      obtain ⟨σ6, H6, S6, q6⟩ := hsp
      exact ⟨σ6, H6, ofSuite S6 ok, q6⟩
    | cont =>
      obtain ⟨σ6, H6, S6, q6⟩ := hsp
      exact ⟨σ6, H6, ofSuite S6 ok, q6⟩
    | ret u =>
      obtain ⟨v6, σ6, H6, S6, r6, q6⟩ := hsp
      exact ⟨v6, σ6, H6, ofSuite S6 ok, r6, q6⟩
end
end LmTwo

set_option maxHeartbeats 2000000
/-! What checker.py promises. -/
namespace Lm
open PySem PySem.Spec PyProof.Rows L2 Evl NdefX LamX
/-! ### going through a list of what may be moves -/
def mvOf : PyData → Mv
  | .tuple [.str s, .int k] => (decide (s = "join"), k)
  | _ => (false, 0)
theorem mvOf_mv (m : Mv) : mvOf (mvD m) = m := by
  obtain ⟨b, k⟩ := m
  show (decide (mvS b = "join"), k) = (b, k)
  cases b <;> rfl
def okE (ns : List Int) (e : PyData) : Bool := isMvD e && decide (mvOf e ∈ movesI ns ∧ topI (mvOf e) ≤ 99)
def walkI : List Int → List PyData → Nat × List Int
  | ns, [] => (0, ns)
  | ns, e :: es => if okE ns e = true then ((walkI (afterI ns (mvOf e)) es).1 + 1, (walkI (afterI ns (mvOf e)) es).2) else (0, ns)
theorem walk_cons (ns : List Int) (e : PyData) (es : List PyData) : walkI ns (e :: es) = if okE ns e = true then ((walkI (afterI ns (mvOf e)) es).1 + 1, (walkI (afterI ns (mvOf e)) es).2) else (0, ns) := rfl
theorem walk_le : ∀ (ns : List Int) (es : List PyData), (walkI ns es).1 ≤ es.length
  | ns, [] => Nat.le_refl 0
  | ns, e :: es => by
    unfold walkI
    split
    · have := walk_le (afterI ns (mvOf e)) es
      simp
      omega
    · exact Nat.zero_le _
theorem ok_of {ns : List Int} {m : Mv} : okE ns (mvD m) = true ↔ (0 ≤ m.2 ∧ m.2 ≤ 99) ∧ m ∈ movesI ns ∧ topI m ≤ 99 := by
  unfold okE
  rw [mvOf_mv, Bool.and_eq_true, decide_eq_true_eq]
  refine and_congr_left fun _ => ?_
  show (decide (mvS m.1 ∈ (["join", "part"] : List Str)) && (decide (0 ≤ m.2) && decide (m.2 ≤ 99))) = true ↔ _
  rw [show decide (mvS m.1 ∈ (["join", "part"] : List Str)) = true by cases m.1 <;> decide, Bool.true_and, Bool.and_eq_true, decide_eq_true_eq, decide_eq_true_eq]
/-- one entry, told by its pile -/
structure OkE (ns : List Int) (e : PyData) (m : Mv) : Prop where
  eq : e = mvD m
  pl : 0 ≤ m.2 ∧ m.2 ≤ 99
  mem : m ∈ movesI ns
  top : topI m ≤ 99
theorem okE_of {ns : List Int} {e : PyData} (h : okE ns e = true) : OkE ns e (mvOf e) := by
  have h2 := h
  unfold okE at h2
  rw [Bool.and_eq_true, decide_eq_true_eq] at h2
  obtain ⟨m, rfl, m0, m1⟩ := is_mv h2.1
  rw [mvOf_mv] at h2
  exact ⟨by rw [mvOf_mv], by rw [mvOf_mv]; exact ⟨m0, m1⟩, by rw [mvOf_mv]; exact h2.2.1, by rw [mvOf_mv]; exact h2.2.2⟩
theorem ok_after {ns : List Int} {e : PyData} (hp : pileI ns = true) (hz : ns.length ≤ 126) (h : okE ns e = true) : pileI (afterI ns (mvOf e)) = true ∧ (afterI ns (mvOf e)).length ≤ ns.length := by
  have O := okE_of h
  obtain ⟨g1, g2⟩ := (mem_moves (pile_in hp) _).mp O.mem
  exact ⟨after_pile (pile_in hp) (by omega) O.pl.1 O.top, after_len_le g1 g2⟩
theorem walk_pile : ∀ {ns : List Int} {es : List PyData}, pileI ns = true → ns.length ≤ 126 → pileI (walkI ns es).2 = true ∧ (walkI ns es).2.length ≤ ns.length
  | ns, [], hp, hz => ⟨hp, Nat.le_refl _⟩
  | ns, e :: es, hp, hz => by
    unfold walkI
    split
    · rename_i h
      obtain ⟨a, b⟩ := ok_after hp hz h
      obtain ⟨c, d⟩ := walk_pile (es := es) a (by omega)
      exact ⟨c, by show (walkI _ es).2.length ≤ _; omega⟩
    · exact ⟨hp, Nat.le_refl _⟩
/-- so far: k entries made, cur behind them -/
def Sofar (ns : List Int) (es : List PyData) (k : Nat) (cur : List Int) : Prop := walkI ns es = (k + (walkI cur (es.drop k)).1, (walkI cur (es.drop k)).2)
theorem sofar0 (ns : List Int) (es : List PyData) : Sofar ns es 0 ns := by
  unfold Sofar
  rw [List.drop_zero, Nat.zero_add]
theorem drop_cons {es : List PyData} {k : Nat} {e : PyData} (h : es[k]? = some e) : es.drop k = e :: es.drop (k + 1) := by
  obtain ⟨hk, he⟩ := List.getElem?_eq_some_iff.mp h
  rw [List.drop_eq_getElem_cons hk, he]
theorem sofar_go {ns cur : List Int} {es : List PyData} {k : Nat} {e : PyData} (s : Sofar ns es k cur) (h : es[k]? = some e) (o : okE cur e = true) : Sofar ns es (k + 1) (afterI cur (mvOf e)) := by
  unfold Sofar at *
  rw [s, drop_cons h, walk_cons, if_pos o]
  show (k + ((walkI (afterI cur (mvOf e)) (es.drop (k + 1))).1 + 1), _) = (k + 1 + (walkI (afterI cur (mvOf e)) (es.drop (k + 1))).1, _)
  rw [Nat.add_comm _ 1, ← Nat.add_assoc]
theorem sofar_no {ns cur : List Int} {es : List PyData} {k : Nat} {e : PyData} (s : Sofar ns es k cur) (h : es[k]? = some e) (o : okE cur e = false) : walkI ns es = (k, cur) := by
  unfold Sofar at s
  rw [s, drop_cons h, walk_cons, if_neg (by rw [o]; decide)]
  rfl
theorem sofar_end {ns cur : List Int} {es : List PyData} (s : Sofar ns es es.length cur) : walkI ns es = (es.length, cur) := by
  unfold Sofar at s
  rw [s, List.drop_length]
  rfl
theorem done_yes {C0 C2 C3 : Addr} {cur : List Int} {d : PyData} (cp : pileI cur = true) (cz : cur.length ≤ 126) (ok : okE cur d = true) : rDone C0 C2 C3 [.tuple (cur.map .int), d] (.val (.tuple ((afterI cur (mvOf d)).map .int))) := by
  have O := okE_of ok
  refine .inr (.inr ⟨cur, mvOf d, by rw [← O.eq], cp, cz, O.pl.1, O.pl.2, ?_⟩)
  unfold doneO
  rw [if_pos O.mem, if_neg (by have := O.top; omega)]
theorem done_no {C0 C2 C3 : Addr} {cur : List Int} {d : PyData} (cp : pileI cur = true) (cz : cur.length ≤ 126) (hd : plainD d = true) (ok : okE cur d = false) : ∃ C, (C = C2 ∨ C = C3) ∧ rDone C0 C2 C3 [.tuple (cur.map .int), d] (.err C) := by
  by_cases mv : isMvD d = true
  · obtain ⟨m, rfl, m0, m1⟩ := is_mv mv
    by_cases z : m ∈ movesI cur
    · have t : 99 < topI m := by
        apply Decidable.byContradiction
        intro y
        rw [ok_of.mpr ⟨⟨m0, m1⟩, z, by omega⟩] at ok
        cases ok
      refine ⟨C3, .inr rfl, .inr (.inr ⟨cur, m, rfl, cp, cz, m0, m1, ?_⟩)⟩
      unfold doneO
      rw [if_pos z, if_pos t]
    · refine ⟨C2, .inl rfl, .inr (.inr ⟨cur, m, rfl, cp, cz, m0, m1, ?_⟩)⟩
      unfold doneO
      rw [if_neg z]
  · exact ⟨C2, .inl rfl, .inr (.inl ⟨cur, d, rfl, cp, cz, hd, by simpa using mv, rfl⟩)⟩
def atW (es : List PyData) (k : Nat) : PyData := if k = es.length then .none else .int (k : Nat)
def rFollowed : List PyData → Out → Prop := fun ds o => ∃ (ns : List Int) (es : List PyData), ds = [.tuple (ns.map .int), .list es] ∧ pileI ns = true ∧ ns.length ≤ 126 ∧ es.length ≤ 90000 ∧ (∀ e ∈ es, plainD e = true) ∧ o = .val (.tuple [atW es (walkI ns es).1, .tuple ((walkI ns es).2.map .int)])
def rFails (C0 : Addr) : List PyData → Out → Prop := fun ds o => (∃ d e, ds = [d, e] ∧ plainD d = true ∧ isPileD d = false ∧ o = .err C0) ∨
  ∃ (ns : List Int) (es : List PyData), ds = [.tuple (ns.map .int), .list es] ∧ pileI ns = true ∧ ns.length ≤ 126 ∧ es.length ≤ 90000 ∧ (∀ e ∈ es, plainD e = true) ∧ o = .val (atW es (walkI ns es).1)
def rightI (ns : List Int) (es : List PyData) (rs : List Int) : Bool := decide ((walkI ns es).1 = es.length ∧ movesI (walkI ns es).2 = [] ∧ rs = (walkI ns es).2)
def rRight (C0 : Addr) : List PyData → Out → Prop := fun ds o => (∃ d e f, ds = [d, e, f] ∧ plainD d = true ∧ isPileD d = false ∧ o = .err C0) ∨
  (∃ (ns : List Int) (e f : PyData), ds = [.tuple (ns.map .int), e, f] ∧ pileI ns = true ∧ (∃ S, tyD e = some S ∧ S ≠ "list") ∧ o = .val (.bool false)) ∨
  (∃ (ns : List Int) (es : List PyData) (f : PyData), ds = [.tuple (ns.map .int), .list es, f] ∧ pileI ns = true ∧ plainD f = true ∧ isPileD f = false ∧ o = .val (.bool false)) ∨
  ∃ (ns rs : List Int) (es : List PyData), ds = [.tuple (ns.map .int), .list es, .tuple (rs.map .int)] ∧ pileI ns = true ∧ ns.length ≤ 126 ∧ es.length ≤ 90000 ∧ (∀ e ∈ es, plainD e = true) ∧ o = .val (.bool (rightI ns es rs))
theorem eqv_tup2 : ∀ ms ns : List Int, PyData.eqv (.tuple (ms.map .int)) (.tuple (ns.map .int)) = decide (ms = ns)
  | [], [] => by rw [decide_eq_true rfl]; rfl
  | [], n :: r => by rw [decide_eq_false (by simp)]; rfl
  | n :: r, [] => by rw [decide_eq_false (by simp)]; rfl
  | m :: r, n :: t => by
    show (PyData.eqv (.int m) (.int n) && PyData.eqv (.tuple (r.map .int)) (.tuple (t.map .int))) = _
    rw [eqv_intI, eqv_tup2 r t, Bool.eq_iff_iff, Bool.and_eq_true, decide_eq_true_eq, decide_eq_true_eq, decide_eq_true_eq, List.cons.injEq]
section
variable {X : Cx} {x : Str} {ps : List Str} {k : Nat} {sp : Sp} {E : L2.St → XK} {p pos : Pos} {e : Expr} {es : List Expr} {t : TA}
/-- a call by name in a try -/
theorem pe_callHT (h : Has X.prog X.w X.K X.mg X.base x ps k sp) (hr : Room k X.A) (hg : Gl X x) (hx : ∀ σ, PassesAt (L2.CX X.prog X.w) X σ (E σ)) (ha : PA X (e :: es) t) (hdb : (x == ("__debug__" : Str)) = false := by decide)
    (he : starEach (e :: es) X.env = (false, eval e X.env) :: starEach es X.env := by rfl) (hpl : (backTo pos (starEach es X.env)).any (·.1) = false := by rfl) : PE X (.Call (.Name x p) (e :: es) [] pos) (tCallS sp E t) := by
  obtain ⟨f, fd, h1, h2, h3, h4⟩ := h.ex
  exact pe_callS h4 hr hg h1 h2 h3 hx ha hdb he hpl
end
section
variable {K : PySem.W.Frag} {mg : Str → Option Value} {σ : L2.St} {G G0 H H0 : Hp} {D : Ends} {tz tu : TS}
theorem d_tryTwo {R : ErrTxt K mg} {i : Nat} {tr : TA} {rel : List PyData → Out → Prop} {ds : List PyData} {o : Out} {ts : TS} (P : Part G0 H0 G H) (h : EdA tr σ G ds) (hr : rel ds o) (he : ∀ C, o = .err C → C = R.c 2 ∨ C = R.c 3)
    (k1 : ∀ d, o = .val d → ∀ v G' H', Part G0 H0 G' H' → Ex G G' → Rp G' v d → D.nx (σ.set i (some v)) H') (k2 : ∀ C, o = .err C → ∀ H', Part G0 H0 G H' → Ex H H' → ts D σ H') :
    tAsg (tCallS (spO rel) (WE (LmTwo.wTwo K (.ref (R.c 2)) (.ref (R.c 3)) ts D)) tr) (gName i) D σ H :=
  h H P.sub _ fun vs G1 H1 p rs => ⟨G1, ds, o, p.sub, rs, hr, by
    cases o with
    | val d => exact fun v G' H' p2 r => k1 d rfl v G' H' (P.trans (p.trans p2)) (p.ext.trans p2.ext) r
    | err C =>
      refine fun H' x => ⟨C, rfl, rfl, ?_, k2 C rfl H' (P.on (p.old.trans x)) (p.old.trans x)⟩
      rcases he C rfl with rfl | rfl
      · simp only [PySem.W.exmAny, R.exo 2 2 (by decide) (by decide), R.exo 2 3 (by decide) (by decide)]
        rfl
      · simp only [PySem.W.exmAny, R.exo 3 2 (by decide) (by decide), R.exo 3 3 (by decide) (by decide)]
        rfl⟩
/-- for k, e in enumerate(a list): a word that goes with the turn -/
theorem d_forEnC {wi : TI} {j l : Nat} {ds : List PyData} (P : Part G0 H0 G H) (h : EvI wi σ G (enD ds)) (C : Nat → Hp → L2.St → Prop) (hC : ∀ G', Ex G G' → C 0 G' σ)
    (hs : ∀ (k : Nat) (d : PyData) (x : V) (σ' : L2.St) (G' H' : Hp) (N : L2.St → Hp → Prop), ds[k]? = some d → Ex G G' → Part G0 H0 G' H' → Rp G' x d → C k G' σ' → (∀ σ2 G2 H2, C (k + 1) G2 σ2 → Ex G' G2 → Part G0 H0 G2 H2 → N σ2 H2) →
      tu { D with nx := N, ct := N, bk := tz D } ((σ'.set j (some (.int (k : Nat)))).set l (some x)) H')
    (up : ∀ k σ' G1 G2, C k G1 σ' → Ex G1 G2 → C k G2 σ')
    (hd : ∀ (σ' : L2.St) (G' H' : Hp), C ds.length G' σ' → Ex G G' → Part G0 H0 G' H' → tz D σ' H') :
    tSeq (tFor wi (gTup K 2 (gCons (gName j) (gCons (gName l) gNil))) tu) tz D σ H := by
  refine d_for P h (fun G1 i σ' H' => ∃ G', Ex G1 G' ∧ C i G' σ' ∧ Part G0 H0 G' H') (fun G1 H1 p _ _ => ⟨G1, Ex.refl _, hC G1 (by assumption), p⟩) (fun G1 i σ' H' _ ⟨G', e, _, q⟩ => e.trans q.sub) (fun G1 i x σ' H1 H' hi e1 q y => ?_) fun G1 σ' H' e1 q => ?_
  · obtain ⟨Gc, ec, c, P1⟩ := q
    obtain ⟨G', d, p, e3, r⟩ := y Gc ec P1.sub
    rw [enD_len] at hi
    obtain ⟨d0, hd0⟩ : ∃ d0, ds[i]? = some d0 := ⟨_, List.getElem?_eq_getElem hi⟩
    rw [enD_at hd0] at e3
    have e4 := (Option.some.inj e3).symm
    subst e4
    cases r with
    | @tup T xs _ et b =>
      obtain ⟨a1, a2, rfl, r1, r2⟩ := two b
      cases r1
      exact ⟨T, _, rfl, .inl (rd_up p.sub et), rfl, _, _, rfl, _, _, rfl, rfl, hs i d0 a2 σ' G' H' _ hd0 (e1.trans (ec.trans p.ext)) (P1.trans p) r2 (up _ _ _ _ c p.ext) fun σ2 G2 H2 c2 x2 P2 => ⟨G2, (ec.trans p.ext).trans x2, c2, P2⟩⟩
  · obtain ⟨G', e, c, P1⟩ := q
    rw [enD_len] at c
    exact hd σ' G' H' c (e1.trans e) P1
end
/-! ### is, of truths -/
def rIsB : R2 := fun x y H Q => ∃ b c : Bool, x = .bl b ∧ y = .bl c ∧ Q (.bl (decide (b = c))) H
def rNotB : R2 := fun x y H Q => ∃ b c : Bool, x = .bl b ∧ y = .bl c ∧ Q (.bl (!decide (b = c))) H
theorem op_isB {X : Cx} : OpR X (compareOp .Is) rIsB := by
  intro pins s σ H x y v u Q I r1 r2 h
  obtain ⟨b, c, rfl, rfl, q⟩ := h
  cases r1
  cases r2
  show wpAny _ _ (isSame (.bool b) (.bool c) >>= fun k => pure (Value.bool k)) _ _ _
  refine wpAny_bind (wpAny_isSame_plain (by cases b <;> cases c <;> rfl) (wpAny_pure (fin_bl I q ?_)))
  cases b <;> cases c <;> rfl
theorem op_notB {X : Cx} : OpR X (compareOp .IsNot) rNotB := by
  intro pins s σ H x y v u Q I r1 r2 h
  obtain ⟨b, c, rfl, rfl, q⟩ := h
  cases r1
  cases r2
  show wpAny _ _ (isSame (.bool b) (.bool c) >>= fun k => pure (Value.bool !k)) _ _ _
  refine wpAny_bind (wpAny_isSame_plain (by cases b <;> cases c <;> rfl) (wpAny_pure (fin_bl I q ?_)))
  cases b <;> cases c <;> rfl
section
variable {σ : L2.St} {G : Hp} {ta tb : TE} {b c : Bool}
theorem ed_isB (h : EvD ta σ G (.bool b)) (k : EvD tb σ G (.bool c)) : EvD (tOp rIsB ta tb) σ G (.bool (decide (b = c))) := fun H x Q q =>
  h H x _ fun v G1 H1 p r => (k.mono p.ext) H1 p.sub _ fun u G2 H2 p2 r2 => by
    cases r
    cases r2
    exact ⟨b, c, rfl, rfl, q _ G2 H2 (p.trans p2) (.bl _)⟩
theorem ed_notB (h : EvD ta σ G (.bool b)) (k : EvD tb σ G (.bool c)) : EvD (tOp rNotB ta tb) σ G (.bool (!decide (b = c))) := fun H x Q q =>
  h H x _ fun v G1 H1 p r => (k.mono p.ext) H1 p.sub _ fun u G2 H2 p2 r2 => by
    cases r
    cases r2
    exact ⟨b, c, rfl, rfl, q _ G2 H2 (p.trans p2) (.bl _)⟩
end
end Lm

set_option maxHeartbeats 2000000
/-! A law over a whole script, forty by forty, and settling called straight. -/
namespace Lm
open PySem PySem.Spec PyProof.Rows L2 Evl NdefX LamX
theorem sq_dat {K : PySem.W.Frag} {H : Hp} {a : Addr} {xs : List V} (h : SqL K H a xs) : SqL K (dat H) a xs := by
  rcases h with (h | ⟨o, h⟩) | h
  · exact .inl (.inl (dat_in h rfl))
  · exact .inl (.inr ⟨o, dat_in h rfl⟩)
  · exact .inr h
theorem rgC40 {m : Nat} (h : m ≤ 63) : RgC 0 (m : Nat) 40 ((m + 39) / 40) := by
  have all : ∀ k : Fin 64, (40 : Int) ≠ 0 ∧ (40 : Int).natAbs < 1073741824 ∧ Builtin.Range.small 0 ((k : Nat) : Int) 40 = true ∧ Builtin.Range.rangeSize 0 ((k : Nat) : Int) 40 = (((k : Nat) + 39) / 40 : Nat) := by decide +kernel
  exact all ⟨m, by omega⟩
def lowI (ns : List Int) : List Int := ns.map fun n => if 9 < n then 9 else n
theorem low_pile {ns : List Int} (h : pileI ns = true) : pileI (lowI ns) = true := by
  have hi := pile_in h
  have hr : (lowI ns).Pairwise (· ≤ ·) := by
    refine List.pairwise_map.mpr ((pile_rise h).imp fun {a b} hab => ?_)
    show (if 9 < a then 9 else a) ≤ (if 9 < b then 9 else b)
    split <;> split <;> omega
  have hl := pile_len h
  rw [srt_one (List.Perm.refl _) hr, pile_srt]
  have : (lowI ns).all inI = true := by
    rw [List.all_eq_true]
    intro x hx
    obtain ⟨n, hn, rfl⟩ := List.mem_map.mp hx
    have := hi n hn
    show (decide (0 ≤ _) && decide (_ ≤ 99)) = true
    split <;> simp <;> omega
  rw [this]
  unfold lowI
  rw [List.length_map]
  simp
  omega
section
variable {P : Program} {w : World} {K : PySem.W.Frag} {mg : Str → Option Value} {base : Heap} {R : ErrTxt K mg} {σ : L2.St} {G H : Hp} {tf tl ta tb : TE} {fs : Addr} {ns cells : List Int}
theorem ed_min2 {i j : Int} (h : EvD ta σ G (.int i)) (k : EvD tb σ G (.int j)) : EvD (tCB (fun xs H Q => ∃ i j, xs = [V.int i, V.int j] ∧ Q (V.int (if j < i then j else i)) H) (tCons ta (tCons tb tNil))) σ G (.int (if j < i then j else i)) := fun H x Q q =>
  h H x _ fun v G1 H1 p r => (k.mono p.ext) H1 p.sub _ fun w G2 H2 p2 r2 => by
    cases r
    cases r2
    exact ⟨i, j, rfl, q _ G2 H2 (p.trans p2) (.int _)⟩
theorem ed_low (h : EvI wi σ G (ns.map .int)) (hz : ns.length ≤ 100000) {j : Nat} (hw : ∀ x, wipe ((wipe σ [j]).set j (some x)) [j] = wipe σ [j]) (hv : ∀ x, ((wipe σ [j]).set j (some x))[j]? = some (some x)) :
    EvD (tLc wi (gName j) tYes (tCB (fun xs H Q => ∃ i j, xs = [V.int i, V.int j] ∧ Q (V.int (if j < i then j else i)) H) (tCons (tVar j) (tCons (tC (.int 9)) tNil))) [j]) σ G (.list ((lowI ns).map .int)) := by
  refine (ed_lc (fun _ => true) (fun d => match d with | .int n => .int (if 9 < n then 9 else n) | _ => .none) h (by rw [List.length_map]; exact hz) (turn_name hw (fun i d x G' e' hi r' H1 x1 Q q => q H1 (Ex.refl _)) fun i d x G' e' hi r' _ => ?_)).is ?_
  · obtain ⟨n, _, rfl⟩ := List.mem_map.mp (List.mem_of_getElem? hi)
    exact ed_min2 (ed_var (hv x) r') ed_int
  · unfold lcD lowI
    rw [List.filter_eq_self.mpr (fun _ _ => rfl), List.map_map, List.map_map]
    rfl
/-- a pile that is none, settled in a try -/
theorem ed_settleBad {d : PyData} (hf : EvD tf σ G (opq fs)) (hl : EvD tl σ G (.list [d])) (F : Fr_ P w K mg base 6 fs (dflS 2 (spSettled P w K mg base 3 (R.c 0) (R.c 3)))) (kp : PySem.W.keepIn K (.ref fs) = true) (hd : plainD d = true) (hp : isPileD d = false) :
    EvD (tCall (spT P w base R 6) [] E0 (tCons tf (tCons tl tNil))) σ G (.str (errName 0)) := fun H x Q q =>
  hf H x _ fun v G1 H1 p r => (hl.mono p.ext) H1 p.sub _ fun u G2 H2 p2 r2 => by
    cases r
    cases r2 with
    | @lst a xs _ e b =>
      have pz := p.trans p2
      obtain ⟨v, rfl, rv⟩ := one b
      exact ⟨fs, _, a, _, rfl, pz.sub _ _ e, .inl rfl, F, .inl kp, fun H3 x3 => .inl ⟨rfl, .inl ⟨G2, d, v, .non, pz.sub.trans x3, rfl, rv, hd, hp, fun H' x' => ⟨0, by decide, rfl, rfl, fun H4 x4 => q _ G2 H4 (pz.on (x3.trans (Ex.trans x' x4))) (.str _)⟩⟩⟩⟩
/-- settling, asked straight, the pick left out -/
theorem ed_settled1 {E : XK} {C0 C3 : Addr} (hl : EvD ta σ G (.tuple (ns.map .int))) (hp : pileI ns = true) (hz : ns.length ≤ 126) (hw : worthI ns < fw 100) :
    EvD (tCall (spSettled P w K mg base 3 C0 C3) [.non] E (tCons ta tNil)) σ G (.tuple ((rowI (worthI ns)).map .int)) := fun H x Q q =>
  hl H x _ fun v G1 H1 p r => .inr ⟨G1, fun _ => none, ns, v, .non, fun _ => none, _, _, rfl, p.sub, (fun _ _ h => by cases h), fun _ _ _ => rfl, r, hp, hz, none_pk, (fun _ _ h => by cases h), trivial, fun hw ms v2 F' H' M' path he PF _ _ _ _ r2 => by
    refine q v2 F' H' (p.trans ⟨PF.ext, PF.sub, fun a o h => PF.old a o h, fun a o h n => PF.new a o h n⟩) ?_
    rw [← (path_end hp (by omega) path he).2]
    exact r2, fun hw2 => by omega⟩
theorem q_rng3 {tr : TA} {g : TG} {tu tz : TS} {D : Ends} {m : Nat} (hz : m ≤ 63) (hl : EdA tr σ H [.int 0, .int (m : Nat), .int 40]) (Pv : Nat → L2.St → Hp → Prop) (h0 : ∀ H1, Ex H H1 → Pv 0 σ H1)
    (hs : ∀ (i : Nat) (σ' : L2.St) (H' : Hp), i * 40 < m → Pv i σ' H' → g (.int ((i * 40 : Nat) : Int)) σ' H' fun σ2 H2 => tu { D with nx := Pv (i + 1), ct := Pv (i + 1), bk := tz D } σ2 H2) (hd : ∀ σ' H', Pv ((m + 39) / 40) σ' H' → tz D σ' H') :
    tSeq (tFor (iRng3 tr) g tu) tz D σ H :=
  hl H (Ex.refl H) _ fun vs G1 H1 P1 r1 => by
    obtain ⟨_, _, _, rfl, a1, a2, a3⟩ := three r1
    cases a1
    cases a2
    cases a3
    exact ⟨0, _, 40, _, rfl, rgC40 hz, for_rangeC (D := { D with nx := tz D }) Pv (h0 H1 P1.old) (fun i σ2 H2 hi hP => by
      have ef : (0 : Int) + (i : Nat) * 40 = ((i * 40 : Nat) : Int) := by omega
      rw [ef]
      exact hs i σ2 H2 (by omega) hP) hd⟩
theorem q_good {T : List NTab} {F : Hp} {Q : Bool → Hp → Prop} (h1 : EvD ta σ F (frzD ns)) (h2 : EvD tb σ F (.list (cells.map .int))) (eF : Ex F H) (d : DatH F) (t : TabsN T H) (hp : pileI ns = true) (hz : ns.length ≤ 126) (c0 : 0 < cells.length) (c1 : cells.length ≤ 1000) (k : ∀ H', Ex F H' → TabsN T H' → Q false H') :
    tNot (tB (tCall (spGood K T) [] E0 (tCons ta (tCons tb tNil)))) σ H Q :=
  h1 H eF _ fun v G1 H1 p1 r1 => (h2.mono p1.ext) H1 p1.sub _ fun u G2 H2 p2 r2 =>
    ⟨dat G2, ns, cells, v, u, rfl, dat_ex.trans p2.sub, dat_dat, tabs_up t (p1.old.trans p2.old), (r1.up p2.ext).dat, hp, hz, r2.dat, c0, c1, fun H' x' t' => ⟨true, rfl, k H' (fun a o h => x' a o (dat_in ((p1.ext.trans p2.ext) a o h) (d a o h))) t'⟩⟩
theorem q_goods {T : List NTab} {F : Hp} {tc td : TE} {tu : TS} {D : Ends} {ms ks : List Int} (h1 : EvD ta σ F (frzD ns)) (h2 : EvD tb σ F (.list (cells.map .int))) (h3 : EvD tc σ F (frzD ms)) (h4 : EvD td σ F (.list (ks.map .int))) (eF : Ex F H) (d : DatH F) (t : TabsN T H) (hp : pileI ns = true) (hz : ns.length ≤ 126) (c0 : 0 < cells.length) (c1 : cells.length ≤ 1000)
    (hp2 : pileI ms = true) (hz2 : ms.length ≤ 126) (c02 : 0 < ks.length) (c12 : ks.length ≤ 1000) (k : ∀ H', Ex F H' → TabsN T H' → D.nx σ H') :
    tIfS (tOr (tNot (tB (tCall (spGood K T) [] E0 (tCons ta (tCons tb tNil))))) (tNot (tB (tCall (spGood K T) [] E0 (tCons tc (tCons td tNil)))))) tu tNext D σ H := by
  exact q_good (K := K) (Q := fun c H1 => if c = true then tu D σ H1 else tNot (tB (tCall (spGood K T) [] E0 (tCons tc (tCons td tNil)))) σ H1 fun b H1 => if b = true then tu D σ H1 else tNext D σ H1) h1 h2 eF d t hp hz c0 c1 fun H6 x6 t6 =>
    q_good (K := K) (Q := fun b H1 => if b = true then tu D σ H1 else tNext D σ H1) h3 h4 x6 d t6 hp2 hz2 c02 c12 k
end
end Lm

set_option maxHeartbeats 2000000
/-! Papers, spoilt ones, and a law's own going through them. -/
namespace Lm
open PySem PySem.Spec PyProof.Rows L2 Evl NdefX LamX
/-! ### what stands in a paper or a spoilt one -/
def kindS (s : Str) : Bool := decide (s = "join" ∨ s = "part" ∨ s = "parts")
def itD : PyData → Bool
  | .none => true
  | .tuple [.str s, .int _] => kindS s
  | .tuple [.str s, .bool _] => kindS s
  | .list [.str s, .int _] => kindS s
  | _ => false
theorem it_mv (m : Mv) : itD (mvD m) = true := by
  obtain ⟨b, k⟩ := m
  show kindS (mvS b) = true
  cases b <;> decide +kernel
theorem it_cases {d : PyData} (h : itD d = true) : d = .none ∨ (∃ s k, d = .tuple [.str s, .int k] ∧ kindS s = true) ∨ (∃ s b, d = .tuple [.str s, .bool b] ∧ kindS s = true) ∨ ∃ s k, d = .list [.str s, .int k] ∧ kindS s = true := by
  unfold itD at h
  split at h
  · exact .inl rfl
  · exact .inr (.inl ⟨_, _, rfl, h⟩)
  · exact .inr (.inr (.inl ⟨_, _, rfl, h⟩))
  · exact .inr (.inr (.inr ⟨_, _, rfl, h⟩))
  · cases h
theorem kind_cases {s : Str} (h : kindS s = true) : s = "join" ∨ s = "part" ∨ s = "parts" := of_decide_eq_true h
theorem it_plain {d : PyData} (h : itD d = true) : plainD d = true := by
  rcases it_cases h with rfl | ⟨_, _, rfl, _⟩ | ⟨_, _, rfl, _⟩ | ⟨_, _, rfl, _⟩ <;> rfl
theorem kind_lay {s : Str} (h : kindS s = true) : PyData.canLay0 (.str s) = true := by
  rcases kind_cases h with rfl | rfl | rfl <;> decide +kernel
theorem kind_eqv {s : Str} (h : kindS s = true) : PyData.eqv (.str s) (.str s) = true := by
  rcases kind_cases h with rfl | rfl | rfl <;> decide +kernel
theorem it_lay {d : PyData} (h : itD d = true) : PyData.canLay0 d = true ∧ PyData.depth d ≤ 1 := by
  rcases it_cases h with rfl | ⟨s, _, rfl, k⟩ | ⟨s, _, rfl, k⟩ | ⟨s, _, rfl, k⟩
  · exact ⟨rfl, by decide⟩
  · refine ⟨?_, Nat.le_refl 1⟩
    show (PyData.canLay0 (.str s) && (true && true)) = true
    rw [kind_lay k]
    rfl
  · refine ⟨?_, Nat.le_refl 1⟩
    show (PyData.canLay0 (.str s) && (true && true)) = true
    rw [kind_lay k]
    rfl
  · refine ⟨?_, Nat.le_refl 1⟩
    show (PyData.canLay0 (.str s) && (true && true)) = true
    rw [kind_lay k]
    rfl
theorem it_eqv {d : PyData} (h : itD d = true) : PyData.eqv d d = true := by
  rcases it_cases h with rfl | ⟨s, n, rfl, k⟩ | ⟨s, b, rfl, k⟩ | ⟨s, n, rfl, k⟩
  · rfl
  · show (PyData.eqv (.str s) (.str s) && (PyData.eqv (.int n) (.int n) && true)) = true
    rw [kind_eqv k, eqv_int]
    rfl
  · show (PyData.eqv (.str s) (.str s) && (PyData.eqv (.bool b) (.bool b) && true)) = true
    rw [kind_eqv k]
    cases b <;> rfl
  · show (PyData.eqv (.str s) (.str s) && (PyData.eqv (.int n) (.int n) && true)) = true
    rw [kind_eqv k, eqv_int]
    rfl
theorem its_lay : ∀ {es : List PyData}, (∀ e ∈ es, itD e = true) → PyData.canLayAll0 es = true ∧ PyData.depthAll es ≤ 1
  | [], _ => ⟨rfl, by decide⟩
  | e :: es, h => by
    obtain ⟨h1, h2⟩ := it_lay (h e List.mem_cons_self)
    obtain ⟨h3, h4⟩ := its_lay fun x hx => h x (List.mem_cons_of_mem e hx)
    refine ⟨?_, ?_⟩
    · show (PyData.canLay0 e && PyData.canLayAll0 es) = true
      rw [h1, h3]
      rfl
    · show max (PyData.depth e) (PyData.depthAll es) ≤ 1
      omega
theorem its_shaped {es : List PyData} (h : ∀ e ∈ es, itD e = true) : SeqAt.shaped (.list es) = true := by
  obtain ⟨h3, h4⟩ := its_lay h
  show (PyData.canLayAll0 es && decide (PyData.depthAll es + 1 ≤ 64)) = true
  rw [h3, decide_eq_true (by omega)]
  rfl
theorem its_eqv : ∀ {es : List PyData}, (∀ e ∈ es, itD e = true) → PyData.eqv (.list es) (.list es) = true
  | [], _ => rfl
  | e :: es, h => by
    show (PyData.eqv e e && PyData.eqv (.list es) (.list es)) = true
    rw [it_eqv (h e List.mem_cons_self), its_eqv fun x hx => h x (List.mem_cons_of_mem e hx)]
    rfl
theorem cut_mem {es : List PyData} {lo hi : Option Int} {e : PyData} (h : e ∈ cutD es lo hi) : e ∈ es := List.mem_of_mem_drop (List.mem_of_mem_take h)
theorem cut_len (es : List PyData) (lo hi : Option Int) : (cutD es lo hi).length ≤ es.length := by
  unfold cutD
  rw [List.length_take, List.length_drop]
  omega
/-! ### spoiling -/
def oddD (n : Int) : List PyData := [.tuple [.str "join", .int (n / 1600 % 14)], .tuple [.str "part", .int (n / 1600 % 9)], .tuple [.str "parts", .int 0], .tuple [.str "part", .bool true], .none, .list [.str "join", .int 0]]
theorem odd_it (n : Int) : ∀ e ∈ oddD n, itD e = true := by
  intro e he
  unfold oddD at he
  simp only [List.mem_cons, List.not_mem_nil, or_false] at he
  rcases he with rfl | rfl | rfl | rfl | rfl | rfl <;> rfl
def spoilD (es : List PyData) (n : Int) : List PyData :=
  let a : Int := n / 16 % ((es.length : Nat) + 1)
  if n % 8 = 0 then cutD es none (some a) ++ cutD es (some (a + 1)) none
  else if n % 8 = 1 then (cutD es none (some a) ++ (cutD es (some a) (some (a + 2))).reverse) ++ cutD es (some (a + 2)) none
  else if n % 8 = 2 then cutD es none (some a)
  else if n % 8 < 5 then (cutD es none (some a) ++ [(oddD n).getD (n / 128 % 6).toNat .none]) ++ cutD es (some a) none
  else (cutD es none (some a) ++ [(oddD n).getD (n / 128 % 2).toNat .none]) ++ cutD es (some (a + 1)) none
theorem odd_at (n : Int) (k : Nat) : itD ((oddD n).getD k .none) = true := by
  rw [List.getD_eq_getElem?_getD]
  cases h : (oddD n)[k]? with
  | none => rfl
  | some e => exact odd_it n e (List.mem_of_getElem? h)
theorem spoil_it {es : List PyData} {n : Int} (h : ∀ e ∈ es, itD e = true) : ∀ e ∈ spoilD es n, itD e = true := by
  intro e he
  unfold spoilD at he
  dsimp only at he
  have c : ∀ {lo hi : Option Int}, e ∈ cutD es lo hi → itD e = true := fun z => h e (cut_mem z)
  split at he
  · exact (List.mem_append.mp he).elim c c
  · split at he
    · exact (List.mem_append.mp he).elim (fun z => (List.mem_append.mp z).elim c fun y => c (List.mem_reverse.mp y)) c
    · split at he
      · exact c he
      · split at he
        · refine (List.mem_append.mp he).elim (fun z => (List.mem_append.mp z).elim c fun y => ?_) c
          rw [List.mem_singleton.mp y]
          exact odd_at _ _
        · refine (List.mem_append.mp he).elim (fun z => (List.mem_append.mp z).elim c fun y => ?_) c
          rw [List.mem_singleton.mp y]
          exact odd_at _ _
theorem spoil_len (es : List PyData) (n : Int) : (spoilD es n).length ≤ 3 * es.length + 1 := by
  unfold spoilD
  dsimp only
  have c := fun lo hi => cut_len es lo hi
  split
  · rw [List.length_append]
    have := c none (some (n / 16 % ((es.length : Nat) + 1)))
    have := c (some (n / 16 % ((es.length : Nat) + 1) + 1)) none
    omega
  · split
    · rw [List.length_append, List.length_append, List.length_reverse]
      have := c none (some (n / 16 % ((es.length : Nat) + 1)))
      have := c (some (n / 16 % ((es.length : Nat) + 1))) (some (n / 16 % ((es.length : Nat) + 1) + 2))
      have := c (some (n / 16 % ((es.length : Nat) + 1) + 2)) none
      omega
    · split
      · have := c none (some (n / 16 % ((es.length : Nat) + 1)))
        omega
      · split
        · rw [List.length_append, List.length_append, List.length_singleton]
          have := c none (some (n / 16 % ((es.length : Nat) + 1)))
          have := c (some (n / 16 % ((es.length : Nat) + 1))) none
          omega
        · rw [List.length_append, List.length_append, List.length_singleton]
          have := c none (some (n / 16 % ((es.length : Nat) + 1)))
          have := c (some (n / 16 % ((es.length : Nat) + 1) + 1)) none
          omega
/-! ### ways that end -/
theorem path_go {S : Nat → List Int → Mv → Prop} {ns : List Int} (hp : pileI ns = true) (hz : ns.length ≤ 200) (hS : ∀ i cur, pileI cur = true → worthI cur = worthI ns → movesI cur ≠ [] → ∃ m, m ∈ movesI cur ∧ topI m ≤ 99 ∧ S i cur m) :
    ∀ (f : Nat) (ms : List Mv), PathI S ns ms → (weighI (endI ns ms)).toNat ≤ f → ∃ ms', PathI S ns ms' ∧ movesI (endI ns ms') = []
  | f, ms, p, hf => by
    by_cases z : movesI (endI ns ms) = []
    · exact ⟨ms, p, z⟩
    · have way := path_way hp hz p
      obtain ⟨m, h1, h2, h3⟩ := hS ms.length _ way.pile way.worth z
      obtain ⟨g1, g2⟩ := (mem_moves (pile_in way.pile) m).mp h1
      have lt := weigh_less (pile_in way.pile _ g1).1 g1 g2
      have way2 := way_step way hz h1 h2
      have w0 := weigh_pos (afterI (endI ns ms) m) fun n hn => (pile_in way2.pile n hn).1
      match f with
      | 0 => omega
      | f + 1 => exact path_go hp hz hS f (ms ++ [m]) (path_snoc p h1 h2 h3) (by rw [end_snoc]; omega)
theorem path_ends {S : Nat → List Int → Mv → Prop} {ns : List Int} (hp : pileI ns = true) (hz : ns.length ≤ 200) (hS : ∀ i cur, pileI cur = true → worthI cur = worthI ns → movesI cur ≠ [] → ∃ m, m ∈ movesI cur ∧ topI m ≤ 99 ∧ S i cur m) : ∃ ms, PathI S ns ms ∧ movesI (endI ns ms) = [] := path_go hp hz hS _ [] path_nil (Nat.le_refl _)
abbrev firstS : Nat → List Int → Mv → Prop := fun _ ns m => (fitI ns)[0]? = some m
theorem firsts_end {ns : List Int} (hp : pileI ns = true) (hz : ns.length ≤ 200) (hw : worthI ns < fw 100) : ∃ ms, PathI firstS ns ms ∧ movesI (endI ns ms) = [] := path_ends hp hz fun i cur cp cw ne => by
  have e := fit_all cp (by omega)
  match h : movesI cur, ne with
  | m :: r, _ => exact ⟨m, by simp, (fit_mem.mp (by rw [e, h]; simp)).2, by unfold firstS; rw [e, h]; rfl⟩
/-- a way of moves, gone through: all of it can be made -/
theorem walk_path {S : Nat → List Int → Mv → Prop} {ns : List Int} {ms : List Mv} (hp : pileI ns = true) (hz : ns.length ≤ 126) (p : PathI S ns ms) : walkI ns (ms.map mvD) = (ms.length, endI ns ms) := by
  have go : ∀ k, k ≤ ms.length → Sofar ns (ms.map mvD) k (endI ns (ms.take k)) := by
    intro k
    induction k with
    | zero => exact fun _ => sofar0 _ _
    | succ k ih =>
      intro hk
      obtain ⟨m, hm⟩ : ∃ m, ms[k]? = some m := ⟨_, List.getElem?_eq_getElem (by omega)⟩
      obtain ⟨h1, h2, _⟩ := p k m hm
      have way := path_way hp (by omega) (path_pre p k)
      have mm := (mem_moves (pile_in way.pile) m).mp h1
      have o : okE (endI ns (ms.take k)) (mvD m) = true := ok_of.mpr ⟨⟨(pile_in way.pile _ mm.1).1, (pile_in way.pile _ mm.1).2⟩, h1, h2⟩
      have s := sofar_go (ih (by omega)) (by rw [List.getElem?_map, hm]; rfl) o
      rw [mvOf_mv, ← end_snoc] at s
      rw [List.take_succ, hm]
      exact s
  have s := go ms.length (Nat.le_refl _)
  rw [List.take_length] at s
  have := sofar_end (es := ms.map mvD) (by rw [List.length_map]; exact s)
  rw [List.length_map] at this
  exact this
theorem dec3 (a b c : Prop) [Decidable a] [Decidable b] [Decidable c] : (decide a && (decide b && decide c)) = decide (a ∧ b ∧ c) := by
  by_cases h1 : a <;> by_cases h2 : b <;> by_cases h3 : c <;> simp [h1, h2, h3]
theorem due_right (ns rs : List Int) (es : List PyData) : (decide ((walkI ns es).1 = es.length) && (decide (movesI (walkI ns es).2 = []) && decide ((walkI ns es).2 = rs))) = rightI ns es rs := by
  unfold rightI
  rw [dec3]
  exact decide_eq_decide.mpr ⟨fun ⟨a, b, c⟩ => ⟨a, b, c.symm⟩, fun ⟨a, b, c⟩ => ⟨a, b, c.symm⟩⟩
/-! ### promises of the law's own defs -/
def rLIsMove : List PyData → Out → Prop := fun ds o => ∃ d, ds = [d] ∧ itD d = true ∧ o = .val (.bool (isMvD d))
def rLWalked : List PyData → Out → Prop := fun ds o => ∃ (ns : List Int) (es : List PyData), ds = [frzD ns, .list es] ∧ pileI ns = true ∧ ns.length ≤ 126 ∧ es.length ≤ 90000 ∧ (∀ e ∈ es, itD e = true) ∧ o = .val (.list [.int ((walkI ns es).1 : Nat), frzD (walkI ns es).2])
def rLSpoilt : List PyData → Out → Prop := fun ds o => ∃ (es : List PyData) (n : Int), ds = [.list es, .int n] ∧ 0 ≤ n ∧ es.length ≤ 30000 ∧ o = .val (.list (spoilD es n))
def rLJudged : List PyData → Out → Prop := fun ds o => ∃ (ns rs : List Int) (es : List PyData), ds = [frzD ns, .list es, .tuple (rs.map .int)] ∧ pileI ns = true ∧ ns.length ≤ 126 ∧ es.length ≤ 90000 ∧ (∀ e ∈ es, itD e = true) ∧ o = .val (.bool true)
def rLFirsts : List PyData → Out → Prop := fun ds o => ∃ (ns : List Int) (ms : List Mv), ds = [frzD ns] ∧ pileI ns = true ∧ ns.length ≤ 126 ∧ worthI ns < fw 100 ∧ PathI firstS ns ms ∧ movesI (endI ns ms) = [] ∧ o = .val (.list (ms.map mvD))
def rLRightOf (C0 : Addr) : List PyData → Out → Prop := fun ds o => ∃ d, ds = [d] ∧ plainD d = true ∧ isPileD d = false ∧ o = .err C0
def spTooGreat (T : List NTab) : Sp := fun vs H Q _ => ∃ (ac : Addr) (F : Hp) (cells : List Int), vs = [.ref ac] ∧ Ex F H ∧ DatH F ∧ TabsN T H ∧ Rp F (.ref ac) (.list (cells.map .int)) ∧ 0 < cells.length ∧ cells.length ≤ 1000 ∧ ∀ H', Ex F H' → TabsN T H' → Q (.bl true) H'
section
variable {K : PySem.W.Frag} {σ : L2.St} {G : Hp} {ta tb : TE}
theorem ed_notInStrT {s : Str} {ws : List Str} (h : EvD ta σ G (.str s)) (k : EvD tb σ G (.tuple (ws.map .str))) : EvD (tOp (rIn K true) ta tb) σ G (.bool (!decide (s ∈ ws))) := fun H x Q q =>
  h H x _ fun v G1 H1 p r => (k.mono p.ext) H1 p.sub _ fun w G2 H2 p2 r2 => by
    cases r
    cases r2 with
    | tup a b =>
      have e := RpA.strsV b
      subst e
      refine ⟨_, _, rfl, .inr (.inl (rd_up p2.sub a)), rfl, flat_strV ws, ?_⟩
      rw [inV_strs]
      exact q _ G2 H2 (p.trans p2) (.bl _)
end
theorem firstS_one : ∀ i cur m m', firstS i cur m → firstS i cur m' → m = m' := fun i cur m m' h1 h2 => by
  unfold firstS at h1 h2
  rw [h1] at h2
  exact Option.some.inj h2
/-- what is new and one object alone may stand without the rest -/
theorem Part.lone {G0 G' G2 H0 H' H2 : Hp} {p : Addr} {o : HO} (P : Part G0 H0 G' H') (P2 : Part G0 H0 G2 H2) (e : Ex G' H2) (h : G2 p = some o) : Part G0 H0 (upd G' p o) H2 where
  ext := P.ext.trans (upd_of e (P2.sub _ _ h))
  sub := upd_ex e (P2.sub _ _ h)
  old := P2.old
  new := fun a u k n => by
    by_cases z : a = p
    · subst z
      exact P2.new a o h n
    · rw [upd_ne z] at k
      exact P.new a u k n
/-! ### a choice that leaves nothing of what it is handed -/
abbrev clearFr : List Str := ["_law_choose"]
def spClearB (nst : Stmt) (qn : Str) : List (Option V) → Sp := fun ws vs H Q _ => ∃ (ls fc ac lm c : Addr) (k : Int) (cells : List Int) (xs : List V) (cl : List (Str × Addr)) (F : Hp), ws = [some (.ref fc)] ∧ vs = [.ref lm] ∧ Ex F H ∧ (F ls = none ∧ F lm = none) ∧ lm ≠ ls ∧ H ls = some (.lst [.int k]) ∧ H lm = some (.lst xs) ∧
  CloAt F fc (pickF nst qn cl c) pickFr [.ref ac, .ref ls] ∧ (Rp F (.ref ac) (.list (cells.map .int)) ∧ 0 < cells.length ∧ cells.length ≤ 1000) ∧ (0 < xs.length ∧ xs.length ≤ 1000) ∧ (0 ≤ k ∧ k ≤ 900000) ∧
  ∀ H', Ex F H' → H' ls = some (.lst [.int (k + 1)]) → Q (.int (pickJ cells (k + 1) xs.length)) H'
def spMkClear (T : List NTab) (nst : Stmt) (qn : Str) (nst2 : Stmt) (qn2 : Str) : Sp := fun vs H Q _ => ∃ (ac : Addr), vs = [.ref ac] ∧ TabsN T H ∧ ∀ f ls fc cl c cl2 c2 H', ExtN H H' → (∀ b, H' b = none → H b = none) → TabsN T H' → CloAt H' fc (pickF nst qn cl c) pickFr [.ref ac, .ref ls] →
  CloAt H' f (pickF nst2 qn2 cl2 c2) clearFr [.ref fc] → H' ls = some (.lst [.int 0]) → H ls = none → (∀ b, IsCl (pickF nst2 qn2 cl2 c2) b → b ≠ fc ∧ b ≠ c ∧ ¬ IsCl (pickF nst qn cl c) b) → Q (.ref f) H'
section
variable {P : Program} {w : World} {K : PySem.W.Frag} {mg : Str → Option Value} {base : Heap}
theorem clear_pk {Fi : Hp} {f fc ls ac c c2 : Addr} {nst nst2 : Stmt} {qn qn2 arg : Str} {cl cl2 : List (Str × Addr)} {cells : List Int} (N : NOk P w K mg base (L2.CX P w) 3 f (pickF nst2 qn2 cl2 c2) [arg] clearFr (spClearB nst qn)) (C : CloAt Fi fc (pickF nst qn cl c) pickFr [.ref ac, .ref ls])
    (C2 : CloAt Fi f (pickF nst2 qn2 cl2 c2) clearFr [.ref fc]) (ncl : ∀ b, IsCl (pickF nst2 qn2 cl2 c2) b → b ≠ fc ∧ b ≠ c ∧ ¬ IsCl (pickF nst qn cl c) b) (n : Fi ls = none) (rc : Rp Fi (.ref ac) (.list (cells.map .int))) (c0 : 0 < cells.length) (c1 : cells.length ≤ 1000) : PkOk P w K mg base 3 (.ref f) Fi (pickC ls) (pickS cells) := by
  refine .inr ⟨f, _, rfl, clo_fr N, .inr ⟨_, C2.fn⟩, fun i ns F M H l xs Q hp hz eFi hC hne eF eM dF rxs el gl ml q => ?_⟩
  obtain ⟨em, hw⟩ := hC
  have CH := (C2.up eFi).up eF
  have CF := C2.up eFi
  have fl : F ls = none := dF.symm em
  have hs := eM _ _ em
  have nm : l ≠ ls := fun z => by
    rw [z, em] at ml
    cases ml
  have none_less : ∀ {a : Addr}, F a = none → less F (pickF nst2 qn2 cl2 c2) a = none := fun {a} h => fresh_back less_ex h
  have Cl : CloAt (less F (pickF nst2 qn2 cl2 c2)) fc (pickF nst qn cl c) pickFr [.ref ac, .ref ls] := by
    have C' := C.up eFi
    have lo : ∀ {a : Addr} {u : HO}, F a = some u → ¬ IsCl (pickF nst2 qn2 cl2 c2) a → less F (pickF nst2 qn2 cl2 c2) a = some u := fun {a u} h z => by
      rw [less_out z]
      exact h
    have nc : ∀ y b, (pickF nst qn cl c).cl.lookup y = some b → ¬ IsCl (pickF nst2 qn2 cl2 c2) b := fun y b e z => (ncl b z).2.2 ⟨y, e⟩
    refine ⟨lo C'.fn fun z => (ncl _ z).1 rfl, lo C'.co fun z => (ncl _ z).2.1 rfl, C'.len, C'.inj, fun y b e => ?_, fun j y e => ?_⟩
    · obtain ⟨v, z⟩ := C'.all y b e
      exact ⟨v, lo z (nc y b e)⟩
    · obtain ⟨b, v, h1, h2, h3⟩ := C'.has j y e
      exact ⟨b, v, h1, h2, lo h3 (nc y b h1)⟩
  have w0 := weigh_pos ns fun n hn => (pile_in hp n hn).1
  have xl : xs.length = (fitI ns).length := by rw [rxs.len, List.length_map]
  have l0 : 0 < (fitI ns).length := List.length_pos_iff.mpr hne
  refine ⟨_, CH, ls, fc, ac, l, c, (i : Int), cells, xs, cl, less F (pickF nst2 qn2 cl2 c2), rfl, rfl, less_mono eF, ⟨none_less fl, none_less gl⟩, nm, less_at CH hs rfl, less_at CH el rfl, Cl, ⟨Rp.dmono (less_d CF) _ _ (rc.up eFi), c0, c1⟩, ⟨by omega, by have := fit_len ns; omega⟩, ⟨by omega, by omega⟩, fun H' x' s' _ => ?_⟩
  rw [xl]
  obtain ⟨j0, j1⟩ := pickJ_in cells ((i : Int) + 1) l0
  have jn : (pickJ cells ((i : Int) + 1) (fitI ns).length).toNat < (fitI ns).length := by omega
  have key := q (pickJ cells ((i : Int) + 1) (fitI ns).length).toNat _ (back H (pickF nst2 qn2 cl2 c2) H') (onl ls (.lst [.int ((i : Int) + 1)])) (List.getElem?_eq_getElem jn) (List.getElem?_eq_getElem jn) (back_ex eF x') (onl_ex (back_at CH hs rfl s')) (onl_dis fl) ⟨by rw [onl_at]; rfl, ?_⟩
  · rw [Int.toNat_of_nonneg j0] at key
    exact key
  · obtain ⟨h1, h2⟩ := fit_mem.mp (List.getElem_mem jn)
    obtain ⟨g1, g2⟩ := (mem_moves (pile_in hp) _).mp h1
    have := weigh_less (pile_in hp _ g1).1 g1 g2
    omega
end
end Lm

set_option maxHeartbeats 2000000
/-! A part of plain data that stays, while the tables of code grow beside it. -/
namespace Lm
open PySem PySem.Spec PyProof.Rows L2 Evl NdefX LamX
structure Hold (T : List NTab) (F H : Hp) : Prop where
  ex : Ex F H
  dat : DatH F
  tab : TabsN T H
theorem datH_upd {F : Hp} {l : Addr} {o : HO} (d : DatH F) (h : isD o = true) : DatH (upd F l o) := fun a u k => by
  by_cases z : a = l
  · subst z
    rw [upd_same] at k
    cases k
    exact h
  · rw [upd_ne z] at k
    exact d a u k
theorem dat_mono {F G : Hp} (d : DatH F) (e : Ex F G) : Ex F (dat G) := fun a o h => dat_in (e a o h) (d a o h)
theorem Hold.up {T : List NTab} {F H H' : Hp} (h : Hold T F H) (e : Ex H H') : Hold T F H' := ⟨h.ex.trans e, h.dat, tabs_up h.tab e⟩
theorem Hold.add {T : List NTab} {F H : Hp} {l : Addr} {o : HO} (h : Hold T F H) (e : H l = some o) (d : isD o = true) : Hold T (upd F l o) H := ⟨upd_ex h.ex e, datH_upd h.dat d, h.tab⟩
theorem Hold.mut {T : List NTab} {F H : Hp} {l : Addr} {xs : List V} {o : HO} (h : Hold T F H) (e : H l = some (.lst xs)) (n : F l = none) : Hold T F (upd H l o) := ⟨ex_mut h.ex n, h.dat, tabs_sub h.tab fun a u k z => by
  by_cases y : a = l
  · subst y
    rw [e] at k
    cases k
    exact absurd rfl (z xs)
  · rw [upd_ne y]
    exact k⟩
theorem Hold.sub {T : List NTab} {F F2 H : Hp} (h : Hold T F H) (e : Ex F2 F) (d : DatH F2) : Hold T F2 H := ⟨e.trans h.ex, d, h.tab⟩
section
variable {T : List NTab} {σ : L2.St} {F H : Hp} {te ta tb : TE} {t u : TT} {D : Ends} {tu tz : TS} {d e : PyData} {K : PySem.W.Frag}
theorem h_asg {i : Nat} (h : Hold T F H) (he : EvD te σ F d) (k : ∀ v F' H', Hold T F' H' → Ex F F' → Ex H H' → Rp F' v d → tz D (σ.set i (some v)) H') : tSeq (tAsg te (gName i)) tz D σ H :=
  he H h.ex _ fun v G' H' p r => k v (dat G') H' ⟨dat_ex.trans p.sub, dat_dat, tabs_up h.tab p.old⟩ (dat_mono h.dat p.ext) p.old r.dat
theorem h_when (h : Hold T F H) (he : EvT t σ F false) (k : ∀ H', Hold T F H' → Ex H H' → tz D σ H') : tSeq (tIfS t tu tNext) tz D σ H :=
  he H h.ex _ fun H' x => k H' (h.up x) x
/-- raw tests: either false -/
theorem h_or {Q : Bool → Hp → Prop} (h1 : ∀ R : Bool → Hp → Prop, (∀ H', Hold T F H' → R false H') → t σ H R) (h2 : ∀ H', Hold T F H' → u σ H' Q) : tOr t u σ H Q := h1 _ fun H' x => h2 H' x
theorem ne_raw {v w : V} {Q : VK} (h : Ex F H) (r1 : Rp F v d) (r2 : Rp F w e) (s1 : SeqAt.shaped d = true) (s2 : SeqAt.shaped e = true) (q : ∀ H', Ex H H' → Q (.bl (!PyData.eqv d e)) H') : rNeD K v w H Q := by
  have z := ed_ne (K := K) (σ := [some v, some w]) (ed_var (i := 0) rfl r1) (ed_var (i := 1) rfl r2) s1 s2 H h Q fun v G' H' p r => by
    cases r
    exact q H' p.old
  obtain ⟨_, e1, _, e2, z⟩ := z
  cases e1
  cases e2
  exact z
end
/-! ### papers and rows by a pick, the tables beside -/
section
variable {P : Program} {w : World} {K : PySem.W.Frag} {mg : Str → Option Value} {base : Heap} {T : List NTab} {C0 C3 : Addr} {F H3 M : Hp} {pk v : V} {Fi : Hp} {C : Nat → List Int → Hp → Prop} {S : Nat → List Int → Mv → Prop} {ns : List Int} {Q : VK} {E : XK}
theorem paper_run (hK : PkOk P w K mg base 3 pk Fi C S) (eFi : Ex Fi (off H3 M)) (e1 : Ex F (off H3 M)) (eM : Ex M H3) (t : TabsN T (off H3 M)) (d : DatH F) (hC : C 0 ns M) (rv : Rp F v (.tuple (ns.map .int))) (hp : pileI ns = true) (hz : ns.length ≤ 126)
    (k1 : worthI ns < fw 100 → ∀ lp xs ms F' H', Hold T F' H' → Ex F F' → PathI S ns ms → movesI (endI ns ms) = [] → H' lp = some (.lst xs) → F' lp = none → RpA F' xs (ms.map mvD) → Q (.ref lp) H') (k2 : fw 100 ≤ worthI ns → ∀ H', Hold T F H' → E (.ref C3) none H') :
    spPaper P w K mg base 3 C0 C3 [v, pk] H3 Q E :=
  .inr ⟨off H3 M, M, ns, v, pk, Fi, C, S, rfl, off_ex, eM, off_dis, rv.up e1, hp, hz, hK, eFi, hC, fun hw ms lp xs F' H' M' path he PF eM' dF' dB hC' el fl ml hl rxs =>
    k1 hw lp xs ms (dat F') H' ⟨dat_ex.trans PF.sub, dat_dat, tabs_up t PF.old⟩ (dat_mono d (e1.trans PF.ext)) path he el (fresh_back dat_ex fl) rxs.dat, fun hw H' x => k2 hw H' ⟨e1.trans x, d, tabs_up t x⟩⟩
theorem settled_run (hK : PkOk P w K mg base 3 pk Fi C S) (eFi : Ex Fi (off H3 M)) (e1 : Ex F (off H3 M)) (eM : Ex M H3) (t : TabsN T (off H3 M)) (d : DatH F) (hC : C 0 ns M) (rv : Rp F v (.tuple (ns.map .int))) (hp : pileI ns = true) (hz : ns.length ≤ 126)
    (k1 : worthI ns < fw 100 → ∀ v2 F' H', Hold T F' H' → Ex F F' → Rp F' v2 (.tuple ((rowI (worthI ns)).map .int)) → Q v2 H') (k2 : fw 100 ≤ worthI ns → ∀ H', Hold T F H' → E (.ref C3) none H') :
    spSettled P w K mg base 3 C0 C3 [v, pk] H3 Q E :=
  .inr ⟨off H3 M, M, ns, v, pk, Fi, C, S, rfl, off_ex, eM, off_dis, rv.up e1, hp, hz, hK, eFi, hC, fun hw ms v2 F' H' M' path he PF eM' dF' dB hC' r2 =>
    k1 hw v2 (dat F') H' ⟨dat_ex.trans PF.sub, dat_dat, tabs_up t PF.old⟩ (dat_mono d (e1.trans PF.ext)) (by rw [← (path_end hp (by omega) path he).2]; exact r2.dat), fun hw H' x => k2 hw H' ⟨e1.trans x, d, tabs_up t x⟩⟩
/-- what is at hand when a pick has been made -/
structure PickIn (T : List NTab) (F H3 : Hp) (ls : Addr) : Prop where
  e1 : Ex F (off H3 (onl ls (.lst [.int 0])))
  eM : Ex (onl ls (.lst [.int 0])) H3
  t : TabsN T (off H3 (onl ls (.lst [.int 0])))
  n : off H3 (onl ls (.lst [.int 0])) ls = none
  up : ∀ a φ, H3 a = some (.ext φ) → off H3 (onl ls (.lst [.int 0])) a = some (.ext φ)
theorem onl_ne {l a : Addr} {o : HO} (h : a ≠ l) : onl l o a = none := if_neg h
theorem pick_in {H : Hp} {ls : Addr} (h : Hold T F H) (eN : ExtN H H3) (T3 : TabsN T H3) (s3 : H3 ls = some (.lst [.int 0])) (n : H ls = none) : PickIn T F H3 ls where
  e1 := fun a o k => by
    have ne : a ≠ ls := ne_of_none (h.ex _ _ k) n
    rw [off_at (onl_ne ne)]
    exact extN_d h.dat h.ex eN _ _ k
  eM := onl_ex s3
  t := tabs_sub T3 fun a o k z => by
    have ne : a ≠ ls := fun y => by
      rw [y, s3] at k
      cases k
      exact z _ rfl
    rw [off_at (onl_ne ne)]
    exact k
  n := by
    unfold off
    rw [onl_at]
  up := fun a φ k => by
    have ne : a ≠ ls := fun y => by
      rw [y, s3] at k
      cases k
    rw [off_at (onl_ne ne)]
    exact k
theorem PickIn.go {H4 : Hp} {ls : Addr} (I : PickIn T F H3 ls) (e : Ex H3 H4) : PickIn T F H4 ls where
  e1 := I.e1.trans (off_up e)
  eM := I.eM.trans e
  t := tabs_up I.t (off_up e)
  n := by
    unfold off
    rw [onl_at]
  up := fun a φ k => by
    have ne : a ≠ ls := fun y => by
      have z := e _ _ (I.eM _ _ onl_at)
      rw [y, z] at k
      cases k
    rw [off_at (onl_ne ne)]
    exact k
theorem pickC_0 {ls : Addr} (hp : pileI ns = true) (hz : ns.length ≤ 126) : pickC ls 0 ns (onl ls (.lst [.int 0])) := ⟨onl_at, by have := weigh_le (pile_in hp); omega⟩
end
section
variable {P : Program} {w : World} {K : PySem.W.Frag} {mg : Str → Option Value} {base : Heap} {T : List NTab} {C0 C3 : Addr} {F H : Hp} {nst nst2 : Stmt} {qn qn2 arg arg2 : Str} {σ : L2.St} {ta tb tf : TE} {ns cells : List Int}
/-- a pick of numbers, made -/
theorem q_mkPick {Q : VK} (N : ∀ (f c : Addr) (cl : List (Str × Addr)), NOk P w K mg base (L2.CX P w) 2 f (pickF nst qn cl c) [arg] pickFr spPickB) (h : Hold T F H) (hb : EvD tb σ F (.list (cells.map .int))) (c0 : 0 < cells.length) (c1 : cells.length ≤ 1000)
    (k : ∀ F2 H3 f ls, Ex F F2 → DatH F2 → PickIn T F2 H3 ls → PkOk P w K mg base 3 (.ref f) (off H3 (onl ls (.lst [.int 0]))) (pickC ls) (pickS cells) → FnH K H3 f → Q (.ref f) H3) :
    tCall (spMkPick T nst qn) [] E0 (tCons tb tNil) σ H Q :=
  hb H h.ex _ fun u G2 H2 p2 r2 => by
    obtain ⟨ac, cx, rfl, oc, _⟩ := r2.lst_inv
    have h2 : Hold T (dat G2) H2 := ⟨dat_ex.trans p2.sub, dat_dat, tabs_up h.tab p2.old⟩
    refine ⟨ac, rfl, h2.tab, fun f ls cl c H3 eN nn T3 C1 s3 f0 l0 z => ?_⟩
    have I := pick_in h2 eN T3 s3 l0
    exact k (dat G2) H3 f ls (dat_mono h.dat p2.ext) dat_dat I (pick_pk (N f c cl) (C1.upX I.up) I.n (r2.dat.up I.e1) c0 c1) (.inr ⟨_, C1.fn⟩)
theorem q_mkClear {Q : VK} (N : ∀ (f c : Addr) (cl : List (Str × Addr)), NOk P w K mg base (L2.CX P w) 3 f (pickF nst2 qn2 cl c) [arg2] clearFr (spClearB nst qn)) (h : Hold T F H) (hb : EvD tb σ F (.list (cells.map .int))) (c0 : 0 < cells.length) (c1 : cells.length ≤ 1000)
    (k : ∀ F2 H3 f ls, Ex F F2 → DatH F2 → PickIn T F2 H3 ls → PkOk P w K mg base 3 (.ref f) (off H3 (onl ls (.lst [.int 0]))) (pickC ls) (pickS cells) → FnH K H3 f → Q (.ref f) H3) :
    tCall (spMkClear T nst qn nst2 qn2) [] E0 (tCons tb tNil) σ H Q :=
  hb H h.ex _ fun u G2 H2 p2 r2 => by
    obtain ⟨ac, cx, rfl, oc, _⟩ := r2.lst_inv
    have h2 : Hold T (dat G2) H2 := ⟨dat_ex.trans p2.sub, dat_dat, tabs_up h.tab p2.old⟩
    refine ⟨ac, rfl, h2.tab, fun f ls fc cl c cl2 c2 H3 eN nn T3 C1 C2 s3 l0 ncl => ?_⟩
    have I := pick_in h2 eN T3 s3 l0
    exact k (dat G2) H3 f ls (dat_mono h.dat p2.ext) dat_dat I (clear_pk (N f c2 cl2) (C1.upX I.up) (C2.upX I.up) ncl I.n (r2.dat.up I.e1) c0 c1) (.inr ⟨_, C2.fn⟩)
/-- paper_of(pile, a pick made on the spot) -/
theorem q_paper {tp : TE} {Q : VK} (hM : ∀ (F' H' : Hp) (R : VK), Hold T F' H' → Ex F F' → (∀ F2 H3 f ls, Ex F' F2 → DatH F2 → PickIn T F2 H3 ls → PkOk P w K mg base 3 (.ref f) (off H3 (onl ls (.lst [.int 0]))) (pickC ls) (pickS cells) → FnH K H3 f → R (.ref f) H3) → tp σ H' R)
    (h : Hold T F H) (ha : EvD ta σ F (.tuple (ns.map .int))) (hp : pileI ns = true) (hz : ns.length ≤ 126) (hw : worthI ns < fw 100)
    (k : ∀ lp xs ms F' H', Hold T F' H' → Ex F F' → PathI (pickS cells) ns ms → movesI (endI ns ms) = [] → H' lp = some (.lst xs) → F' lp = none → RpA F' xs (ms.map mvD) → Q (.ref lp) H') :
    tCall (spPaper P w K mg base 3 C0 C3) [] E0 (tCons ta (tCons tp tNil)) σ H Q :=
  ha H h.ex _ fun v G1 H1 p1 r1 => hM (dat G1) H1 _ ⟨dat_ex.trans p1.sub, dat_dat, tabs_up h.tab p1.old⟩ (dat_mono h.dat p1.ext) fun F2 H3 f ls x d I hK _ =>
    paper_run hK (Ex.refl _) I.e1 I.eM I.t d (pickC_0 hp hz) (r1.dat.up x) hp hz (fun _ lp xs ms F' H' hh xx path he el fl rxs => k lp xs ms F' H' hh ((dat_mono h.dat p1.ext).trans (x.trans xx)) path he el fl rxs) fun z => by omega
theorem q_settled {tp : TE} {Q : VK} (hM : ∀ (F' H' : Hp) (R : VK), Hold T F' H' → Ex F F' → (∀ F2 H3 f ls, Ex F' F2 → DatH F2 → PickIn T F2 H3 ls → PkOk P w K mg base 3 (.ref f) (off H3 (onl ls (.lst [.int 0]))) (pickC ls) (pickS cells) → FnH K H3 f → R (.ref f) H3) → tp σ H' R)
    (h : Hold T F H) (ha : EvD ta σ F (.tuple (ns.map .int))) (hp : pileI ns = true) (hz : ns.length ≤ 126) (hw : worthI ns < fw 100)
    (k : ∀ v2 F' H', Hold T F' H' → Ex F F' → Rp F' v2 (.tuple ((rowI (worthI ns)).map .int)) → Q v2 H') :
    tCall (spSettled P w K mg base 3 C0 C3) [] E0 (tCons ta (tCons tp tNil)) σ H Q :=
  ha H h.ex _ fun v G1 H1 p1 r1 => hM (dat G1) H1 _ ⟨dat_ex.trans p1.sub, dat_dat, tabs_up h.tab p1.old⟩ (dat_mono h.dat p1.ext) fun F2 H3 f ls x d I hK _ =>
    settled_run hK (Ex.refl _) I.e1 I.eM I.t d (pickC_0 hp hz) (r1.dat.up x) hp hz (fun _ v2 F' H' hh xx r2 => k v2 F' H' hh ((dat_mono h.dat p1.ext).trans (x.trans xx)) r2) fun z => by omega
/-- .. tried, where the pile has no row -/
theorem q_paperT {kl : Nat} {R : ErrTxt K mg} {tp : TE} {fs : Addr} {Q : VK} (hM : ∀ (F' H' : Hp) (R : VK), Hold T F' H' → Ex F F' → (∀ F2 H3 f ls, Ex F' F2 → DatH F2 → PickIn T F2 H3 ls → PkOk P w K mg base 3 (.ref f) (off H3 (onl ls (.lst [.int 0]))) (pickC ls) (pickS cells) → FnH K H3 f → R (.ref f) H3) → tp σ H' R)
    (FS : Fr_ P w K mg base kl fs (dflS 2 (spPaper P w K mg base 3 (R.c 0) (R.c 3)))) (kp : PySem.W.keepIn K (.ref fs) = true) (h : Hold T F H) (ha : EvD ta σ F (.tuple (ns.map .int))) (hp : pileI ns = true) (hz : ns.length ≤ 126) (hw : fw 100 ≤ worthI ns)
    (k : ∀ H', Hold T F H' → Q (.str "TooGreat") H') : tCall (spT P w base R kl) [] E0 (tCons (tC (.ref fs)) (tCons (tLst (tCons ta (tCons tp tNil))) tNil)) σ H Q :=
  ha H h.ex _ fun v G1 H1 p1 r1 => hM (dat G1) H1 _ ⟨dat_ex.trans p1.sub, dat_dat, tabs_up h.tab p1.old⟩ (dat_mono h.dat p1.ext) fun F2 H3 f ls x d I hK hf => by
    refine ⟨by show 2 ≤ sizeLine; decide, fun l n => ?_⟩
    refine spT_of (E := E0) (Rl := fun v2 H5 => v2 = .str "TooGreat" ∧ Hold T F H5) upd_same (.inr rfl) FS kp (fun H4 x4 => .inr ⟨rfl, ?_⟩) fun v2 H5 hR => ?_
    · have I4 := I.go ((Ex.new n).trans x4)
      refine paper_run hK (off_up ((Ex.new n).trans x4)) I4.e1 I4.eM I4.t d (pickC_0 hp hz) (r1.dat.up x) hp hz (fun z => by omega) fun _ H' hh => ⟨3, by decide, rfl, rfl, fun H5 x5 => ⟨rfl, (hh.up x5).sub ((dat_mono h.dat p1.ext).trans x) h.dat⟩⟩
    · rw [hR.1]
      exact k H5 hR.2
end
section
variable {P : Program} {w : World} {K : PySem.W.Frag} {mg : Str → Option Value} {base : Heap} {R : ErrTxt K mg} {σ : L2.St} {G H : Hp} {tf tl ta tb : TE} {fs : Addr} {ns : List Int} {ms : List Mv} {C0 C3 : Addr} {E : XK}
theorem paper_ev {v : V} {G1 H1 : Hp} {Q : VK} (e : Ex G1 H1) (r : Rp G1 v (.tuple (ns.map .int))) (hp : pileI ns = true) (hz : ns.length ≤ 126) (hw : worthI ns < fw 100) (path : PathI firstS ns ms) (he : movesI (endI ns ms) = []) (q : ∀ v G' H', Part G1 H1 G' H' → Rp G' v (.list (ms.map mvD)) → Q v H') : spPaper P w K mg base 3 C0 C3 [v, .non] H1 Q E :=
  .inr ⟨G1, fun _ => none, ns, v, .non, fun _ => none, _, _, rfl, e, (fun _ _ h => by cases h), fun _ _ _ => rfl, r, hp, hz, none_pk, (fun _ _ h => by cases h), trivial, fun hw ms' lp xs F' H' M' path' he' PF _ _ _ _ el fl _ hl rxs => by
    have e2 := path_one firstS_one path' path he' he
    subst e2
    have P2 : Part G1 H1 F' H' := ⟨PF.ext, PF.sub, fun a o h => PF.old a o h, fun a o h n => PF.new a o h n⟩
    exact q _ _ H' (P2.take fl hl el) (.lst upd_same (rxs.up (Ex.new fl))), fun hw2 => by omega⟩
theorem ed_paper1 (hl : EvD ta σ G (.tuple (ns.map .int))) (hp : pileI ns = true) (hz : ns.length ≤ 126) (hw : worthI ns < fw 100) (path : PathI firstS ns ms) (he : movesI (endI ns ms) = []) : EvD (tCall (spPaper P w K mg base 3 C0 C3) [.non] E (tCons ta tNil)) σ G (.list (ms.map mvD)) := fun H x Q q =>
  hl H x _ fun v G1 H1 p r => paper_ev p.sub r hp hz hw path he fun v G' H' p2 r2 => q v G' H' (p.trans p2) r2
theorem ed_paper2 (hl : EvD ta σ G (.tuple (ns.map .int))) (hp : pileI ns = true) (hz : ns.length ≤ 126) (hw : worthI ns < fw 100) (path : PathI firstS ns ms) (he : movesI (endI ns ms) = []) : EvD (tCall (spPaper P w K mg base 3 C0 C3) [] E (tCons ta (tCons (tC .non) tNil))) σ G (.list (ms.map mvD)) := fun H x Q q =>
  hl H x _ fun v G1 H1 p r => paper_ev p.sub r hp hz hw path he fun v G' H' p2 r2 => q v G' H' (p.trans p2) r2
theorem ed_paperBad {kl : Nat} {d : PyData} (hf : EvD tf σ G (opq fs)) (hl : EvD tl σ G (.list [d])) (F : Fr_ P w K mg base kl fs (dflS 2 (spPaper P w K mg base 3 (R.c 0) (R.c 3)))) (kp : PySem.W.keepIn K (.ref fs) = true) (hd : plainD d = true) (hp : isPileD d = false) :
    EvD (tCall (spT P w base R kl) [] E0 (tCons tf (tCons tl tNil))) σ G (.str (errName 0)) := fun H x Q q =>
  hf H x _ fun v G1 H1 p r => (hl.mono p.ext) H1 p.sub _ fun u G2 H2 p2 r2 => by
    cases r
    cases r2 with
    | @lst a xs _ e b =>
      have pz := p.trans p2
      obtain ⟨v, rfl, rv⟩ := one b
      exact ⟨fs, _, a, _, rfl, pz.sub _ _ e, .inl rfl, F, .inl kp, fun H3 x3 => .inl ⟨rfl, .inl ⟨G2, d, v, .non, pz.sub.trans x3, rfl, rv, hd, hp, fun H' x' => ⟨0, by decide, rfl, rfl, fun H4 x4 => q _ G2 H4 (pz.on (x3.trans (Ex.trans x' x4))) (.str _)⟩⟩⟩⟩
theorem ed_paperT {kl : Nat} (hf : EvD tf σ G (opq fs)) (hl : EvD tl σ G (.list [.tuple (ns.map .int)])) (F : Fr_ P w K mg base kl fs (dflS 2 (spPaper P w K mg base 3 (R.c 0) (R.c 3)))) (kp : PySem.W.keepIn K (.ref fs) = true) (hp : pileI ns = true) (hz : ns.length ≤ 126) (hw : fw 100 ≤ worthI ns) :
    EvD (tCall (spT P w base R kl) [] E0 (tCons tf (tCons tl tNil))) σ G (.str (errName 3)) := fun H x Q q =>
  hf H x _ fun v G1 H1 p r => (hl.mono p.ext) H1 p.sub _ fun u G2 H2 p2 r2 => by
    cases r
    cases r2 with
    | @lst a xs _ e b =>
      have pz := p.trans p2
      obtain ⟨v, rfl, rv⟩ := one b
      exact ⟨fs, _, a, _, rfl, pz.sub _ _ e, .inl rfl, F, .inl kp, fun H3 x3 => .inl ⟨rfl, .inr ⟨G2, fun _ => none, ns, v, .non, fun _ => none, _, _, rfl, pz.sub.trans x3, (fun _ _ h => by cases h), fun _ _ _ => rfl, rv, hp, hz, none_pk, (fun _ _ h => by cases h), trivial, fun hw2 => by omega, fun _ H' x' => ⟨3, by decide, rfl, rfl, fun H4 x4 => q _ G2 H4 (pz.on (x3.trans (Ex.trans x' x4))) (.str _)⟩⟩⟩⟩
end
/-! ### a pile of low marks -/
def capI (c : Int) (ns : List Int) : List Int := ns.map fun n => if c < n then c else n
theorem cap_len (c : Int) (ns : List Int) : (capI c ns).length = ns.length := List.length_map _
theorem cap_pile {c : Int} {ns : List Int} (h : pileI ns = true) (c0 : 0 ≤ c) : pileI (capI c ns) = true := by
  have hi := pile_in h
  have hr : (capI c ns).Pairwise (· ≤ ·) := by
    refine List.pairwise_map.mpr ((pile_rise h).imp fun {a b} hab => ?_)
    show (if c < a then c else a) ≤ (if c < b then c else b)
    split <;> split <;> omega
  have hl := pile_len h
  rw [srt_one (List.Perm.refl _) hr, pile_srt]
  have : (capI c ns).all inI = true := by
    rw [List.all_eq_true]
    intro x hx
    obtain ⟨n, hn, rfl⟩ := List.mem_map.mp hx
    have := hi n hn
    show (decide (0 ≤ _) && decide (_ ≤ 99)) = true
    split <;> simp <;> omega
  rw [this, cap_len]
  simp
  omega
theorem cap_top {c : Int} {ns : List Int} : ∀ n ∈ capI c ns, n ≤ c := fun n hn => by
  obtain ⟨m, _, rfl⟩ := List.mem_map.mp hn
  show (if c < m then c else m) ≤ c
  split <;> omega
theorem worth_le {k : Nat} : ∀ {ns : List Int}, (∀ n ∈ ns, n ≤ k) → worthI ns ≤ ns.length * fw k
  | [], _ => by simp [worthI]
  | n :: ns, h => by
    have ih := worth_le fun m hm => h m (List.mem_cons_of_mem n hm)
    have hn := h n List.mem_cons_self
    have f : fw n.toNat ≤ fw k := fw_mono (by omega)
    have e : worthI (n :: ns) = fw n.toNat + worthI ns := rfl
    rw [e, List.length_cons]
    have : ((ns.length + 1 : Nat) : Int) * fw k = (ns.length : Int) * fw k + fw k := by
      rw [Int.natCast_add, Int.add_mul]
      simp
    omega
section
variable {σ : L2.St} {G : Hp} {wi : TI} {ns : List Int}
theorem ed_cap {c : Int} (h : EvI wi σ G (ns.map .int)) (hz : ns.length ≤ 100000) {j : Nat} (hw : ∀ x, wipe ((wipe σ [j]).set j (some x)) [j] = wipe σ [j]) (hv : ∀ x, ((wipe σ [j]).set j (some x))[j]? = some (some x)) :
    EvD (tLc wi (gName j) tYes (tCB (fun xs H Q => ∃ i j, xs = [V.int i, V.int j] ∧ Q (V.int (if j < i then j else i)) H) (tCons (tVar j) (tCons (tC (.int c)) tNil))) [j]) σ G (.list ((capI c ns).map .int)) := by
  refine (ed_lc (fun _ => true) (fun d => match d with | .int n => .int (if c < n then c else n) | _ => .none) h (by rw [List.length_map]; exact hz) (turn_name hw (fun i d x G' e' hi r' H1 x1 Q q => q H1 (Ex.refl _)) fun i d x G' e' hi r' _ => ?_)).is ?_
  · obtain ⟨n, _, rfl⟩ := List.mem_map.mp (List.mem_of_getElem? hi)
    exact ed_min2 (ed_var (hv x) r') ed_int
  · unfold lcD capI
    rw [List.filter_eq_self.mpr (fun _ _ => rfl), List.map_map, List.map_map]
    rfl
end
/-! ### cuts of numbers; a list that holds a tuple -/
def cutN (ns : List Int) (lo hi : Option Int) : List Int := (ns.drop (HT.sIx ns.length 0 lo)).take (HT.sIx ns.length ns.length hi - HT.sIx ns.length 0 lo)
theorem cut_ints (ns : List Int) (lo hi : Option Int) : cutD (ns.map .int) lo hi = (cutN ns lo hi).map .int := by
  unfold cutD cutN
  rw [List.length_map, List.map_take, List.map_drop]
theorem cutV_from (ns : List Int) (m : Nat) : cutV (ns.map V.int) (some (m : Int)) none = (ns.drop m).map V.int := by
  unfold cutV
  rw [HT.sIx_none, HT.sIx_nat, List.length_map, List.map_drop]
  by_cases h : m ≤ ns.length
  · rw [Nat.min_eq_left h, List.take_of_length_le (by rw [List.length_drop, List.length_map]; omega)]
  · rw [Nat.min_eq_right (by omega), List.drop_eq_nil_of_le (by rw [List.length_map]; omega), List.drop_eq_nil_of_le (as := ns.map V.int) (i := m) (by rw [List.length_map]; omega), List.take_nil]
section
variable {σ : L2.St} {G : Hp} {te : TE} {k : Int} {ns : List Int}
theorem ed_thawL (h : EvD te σ G (.list [.int k, frzD ns])) : EvD te σ G (.list [.int k, .tuple (ns.map .int)]) := fun H x Q q => h H x Q fun v G' H' p r => by
  obtain ⟨a, xs, rfl, e, b⟩ := r.lst_inv
  obtain ⟨x1, x2, rfl, r1, r2⟩ := two b
  exact q _ G' H' p (.lst e (.cons r1 (.cons r2.thaw .nil)))
theorem shaped_pair : SeqAt.shaped (.list [.int k, .tuple (ns.map .int)]) = true := by
  have h1 := lay_ints ns
  have h2 := depth_ints ns
  show ((true && (PyData.canLayAll0 (ns.map .int) && true)) && decide (max 0 (max (PyData.depthAll (ns.map .int) + 1) 0) + 1 ≤ 64)) = true
  rw [h1, h2]
  rfl
theorem eqv_pair : PyData.eqv (.list [.int k, .tuple (ns.map .int)]) (.list [.int k, .tuple (ns.map .int)]) = true := by
  show (PyData.eqv (.int k) (.int k) && (PyData.eqv (.tuple (ns.map .int)) (.tuple (ns.map .int)) && true)) = true
  rw [eqv_int, eqv_tup]
  rfl
end
section
variable {T : List NTab} {σ : L2.St} {F H : Hp} {te : TE} {D : Ends} {tu tz : TS} {d e : PyData} {K : PySem.W.Frag}
theorem ne_same {v w : V} {Q : VK} (h : Ex F H) (r1 : Rp F v d) (r2 : Rp F w e) (s1 : SeqAt.shaped d = true) (s2 : SeqAt.shaped e = true) (z : PyData.eqv d e = true) (q : ∀ H', Ex H H' → Q (.bl false) H') : rNeD K v w H Q := ne_raw h r1 r2 s1 s2 fun H' x => by
  rw [z]
  exact q H' x
theorem ne_sameC {v w : V} {Q : VK} (h : Ex F H) (r1 : Rp F v d) (r2 : Rp F w e) (s1 : SeqAt.shaped d = true) (s2 : SeqAt.shaped e = true) (z : PyData.eqv d e = true) (q : ∀ H', Ex H H' → Q (.bl false) H') : tC w σ H fun y H2 => rNeD K v y H2 Q := ne_same h r1 r2 s1 s2 z q
theorem ne_sameV {i : Nat} {v w : V} {Q : VK} (hw : σ[i]? = some (some w)) (h : Ex F H) (r1 : Rp F v d) (r2 : Rp F w e) (s1 : SeqAt.shaped d = true) (s2 : SeqAt.shaped e = true) (z : PyData.eqv d e = true) (q : ∀ H', Ex H H' → Q (.bl false) H') : tVar i σ H fun y H2 => rNeD K v y H2 Q := ⟨w, hw, ne_same h r1 r2 s1 s2 z q⟩
/-- for x in a list: the tables grow in the turns -/
theorem q_forList {j : Nat} {ds : List PyData} (h : Hold T F H) (he : EvD te σ F (.list ds)) (C : L2.St → Prop) (hC : C σ)
    (hs : ∀ (d : PyData) (x : V) (σ' : L2.St) (F' H' : Hp) (N : L2.St → Hp → Prop), d ∈ ds → Hold T F' H' → Ex F F' → Rp F' x d → C σ' → (∀ σ2 H2, C σ2 → Hold T F' H2 → N σ2 H2) → tu { D with nx := N, ct := N, bk := tz D } (σ'.set j (some x)) H')
    (hd : ∀ σ' H', C σ' → Hold T F H' → tz D σ' H') : tSeq (tFor (iList K te) (gName j) tu) tz D σ H :=
  he H h.ex _ fun v G' H' p r => by
    obtain ⟨a, xs, rfl, e, b⟩ := r.lst_inv
    have e' : dat G' a = some (.lst xs) := dat_in e rfl
    have h' : Hold T (dat G') H' := ⟨dat_ex.trans p.sub, dat_dat, tabs_up h.tab p.old⟩
    have b' := b.dat
    refine ⟨a, rfl, ⟨xs, .inl (.inl (p.sub _ _ e))⟩, for_it (n := xs.length) (G := fun H => Ex (dat G') H) (D := { D with nx := tz D }) (walk_list (K := K) (a := a) (xs := xs) |>.mono (fun H' k => .inl (.inl (k _ _ e'))) fun i H2 y H3 hi k z => z) (fun _ σ' H' => C σ' ∧ Hold T (dat G') H') ⟨hC, h'⟩ (fun i σ' H' _ q => q.2.ex) (fun i x σ' H1 H2 hi q y => ?_) fun σ' H' q => hd σ' H' q.1 (q.2.sub (dat_mono h.dat p.ext) h.dat)⟩
    obtain ⟨rfl, hy⟩ := y
    obtain ⟨d, e1, e2⟩ := b'.at2 hy
    exact hs d x σ' (dat G') _ _ (List.mem_of_getElem? e1) q.2 (dat_mono h.dat p.ext) e2 q.1 fun σ2 H2 c2 h2 => ⟨c2, h2⟩
/-! statements whose reading is gone through by hand -/
theorem q_asgR {i : Nat} (h : te σ H (fun v H' => tz D (σ.set i (some v)) H')) : tSeq (tAsg te (gName i)) tz D σ H := h
theorem q_or2 {A u : TT} (h : Hold T F H) (h1 : EvT A σ F false) (h2 : ∀ H', Hold T F H' → u σ H' fun b H1 => if b = true then tu { D with nx := tz D } σ H1 else tz D σ H1) : tSeq (tIfS (tOr A u) tu tNext) tz D σ H :=
  h1 H h.ex _ fun H' x => h2 H' (h.up x)
theorem q_whenO {A u : TT} (h : A σ H fun c H1 => if c = true then (if true = true then tu { D with nx := tz D } σ H1 else tz D σ H1) else u σ H1 fun b H2 => if b = true then tu { D with nx := tz D } σ H2 else tz D σ H2) : tSeq (tIfS (tOr A u) tu tNext) tz D σ H := h
theorem q_whenN (h : te σ H fun v H1 => ∃ c, v = .bl c ∧ if (!c) = true then tu { D with nx := tz D } σ H1 else tz D σ H1) : tSeq (tIfS (tNot (tB te)) tu tNext) tz D σ H := h
theorem q_ne {tv : TE} {Q : Bool → Hp → Prop} (h : te σ H fun x H1 => tv σ H1 fun y H2 => rNeD K x y H2 fun z H3 => ∃ k, z = .bl k ∧ Q k H3) : tTest (tOp (rNeD K) te tv) σ H Q := h
theorem q_list {i j : Nat} {l : Addr} {xs : List V} (hs : σ[j]? = some (some (.ref l))) (hl : H l = some (.lst xs)) (k : ∀ p, H p = none → tz D (σ.set i (some (.ref p))) (upd H p (.lst xs))) : tSeq (tAsg (tCB (rListS K) (tCons (tVar j) tNil)) (gName i)) tz D σ H :=
  ⟨.ref l, hs, l, xs, rfl, .inl (.inl (.inl hl)), fun p n => k p n⟩
end
end Lm

set_option maxHeartbeats 2000000
/-! set(t) of a tuple of numbers; s.discard(k). -/
namespace LmDisc
open PySem PySem.Spec PyProof.Rows L2
theorem toList_eraseAt {α : Type} (xs : Array α) (p : Nat) : (SetTable.eraseAt xs p).toList = xs.toList.eraseIdx p := by
  rw [List.eraseIdx_eq_take_drop_succ]
  simp [SetTable.eraseAt, List.extract_eq_take_drop, List.take_of_length_le]
theorem size_eraseAt {α : Type} {xs : Array α} {p : Nat} (h : p < xs.size) : (SetTable.eraseAt xs p).size = xs.size - 1 := by
  rw [← Array.length_toList, toList_eraseAt, List.length_eraseIdx_of_lt (by rw [Array.length_toList]; exact h), Array.length_toList]
theorem size_insertAt {α : Type} (xs : Array α) (p : Nat) (x : α) : (SetTable.insertAt xs p x).size = xs.size + 1 := by
  rw [← Array.length_toList, (SetTable.insertAt_perm xs p x).length_eq, Array.length_toList, Array.size_push]
theorem drop_fits {t : SetTable} {n i : Nat} (h : t.fits n = true) (hi : i < n) : (t.drop i).fits (n - 1) = true := by
  unfold SetTable.fits at h ⊢
  rw [Bool.and_eq_true, beq_iff_eq, decide_eq_true_eq] at h
  have hp : i < t.place.size := by omega
  have e : t.place[i]? = some t.place[i] := Array.getElem?_eq_getElem hp
  unfold SetTable.drop
  rw [e, Bool.and_eq_true, beq_iff_eq, decide_eq_true_eq]
  unfold SetTable.fill at h ⊢
  show (SetTable.eraseAt t.place i).size = n - 1 ∧ (SetTable.eraseAt t.place i).size + (SetTable.insertAt t.dummies _ _).size ≤ t.mask
  rw [size_eraseAt hp, size_insertAt]
  omega
theorem drop_ris {t : SetTable} {i : Nat} (h : Ris t.place.toList) : Ris (t.drop i).place.toList := by
  unfold SetTable.drop
  cases t.place[i]? with
  | none => exact h
  | some j =>
    show Ris (SetTable.eraseAt t.place i).toList
    rw [toList_eraseAt]
    exact List.Pairwise.sublist (List.eraseIdx_sublist _ _) h
theorem drop_led (t : SetTable) (i : Nat) : (t.drop i).led = t.led := by
  unfold SetTable.drop
  cases t.place[i]? <;> rfl
theorem erase_idx {ns : List Int} {i : Nat} {k : Int} (nd : ns.Nodup) (h : ns[i]? = some k) : ns.eraseIdx i = ns.erase k := by
  induction ns generalizing i with
  | nil => simp at h
  | cons a r ih =>
    have h2 := List.nodup_cons.mp nd
    cases i with
    | zero =>
      have e : a = k := by simpa using h
      subst e
      simp
    | succ i =>
      have h3 : r[i]? = some k := by simpa using h
      have ne : a ≠ k := fun e => h2.1 (e ▸ List.mem_of_getElem? h3)
      rw [List.eraseIdx_cons_succ, ih h2.2 h3, List.erase_cons_tail (by simpa using ne)]
theorem map_eraseIdx {α β : Type} (f : α → β) : ∀ (l : List α) (i : Nat), (l.eraseIdx i).map f = (l.map f).eraseIdx i
  | [], _ => by simp
  | _ :: _, 0 => by simp
  | a :: l, i + 1 => by
    rw [List.eraseIdx_cons_succ, List.map_cons, List.map_cons, List.eraseIdx_cons_succ, map_eraseIdx f l i]
section
variable {P : Program} {w : World} {A : Around} {E : Value → Shared → Prop} {s : Shared} {a : Addr} {S : Int → Bool} {n : Nat}
/-- the place of a number in a set that lies there -/
theorem find_at {o : Obj} {es : Array (Int × Value)} {ep : Nat} {t : SetTable} {k : Int} {tk : Tok} {Q : Option Nat → Shared → Prop} (ho : s.heap.get? a = some o) (hd : o.data = .set es ep t) (g : ∀ e ∈ es.toList, GoodE e) (hb : es.size < scanBound) (hf : t.fits es.size = true)
    (h : Q (es.toList.findIdx? fun e => (intKind P w).is k e.2) s) : wpAny (model P w) A (setFind a (.int k tk) ((intKind P w).hash k)) Q E s := by
  have hkey : (intKind P w).is k (.int k tk) = true := intKind_is P w k tk
  have hel : ElemsOf (intKind P w) es.toList := good_elems g
  unfold setFind setFindIn
  refine wpAny_bind (wpAny_setState_of ho hd hf ?_)
  dsimp only
  rw [byScan_of rfl hb hel]
  simp only [↓reduceIte]
  refine wpAny_bind (wpAny_rule ?_)
  refine wpAny_bind (wpAny_setScan_of hkey ho hd hf hel ?_)
  cases hr : List.findIdx? (fun e => (intKind P w).is k e.2) es.toList with
  | none =>
    dsimp only
    rw [hr] at h
    exact wpAny_pure h
  | some j =>
    dsimp only
    rw [hr] at h
    rw [Nat.zero_add]
    exact wpAny_pure h
/-- found.discard(k) -/
theorem setR_discard {k : Int} {tk : Tok} {Q : Value → Shared → Prop} (R : SetR w s.heap a S n)
    (hQ : ∀ h', Heap.SameBut a s.heap h' → SetR w h' a (fun j => S j && !decide (j = k)) (if S k = true then n - 1 else n) → Q .none { s with heap := h', toks := s.toks + 1 }) :
    wpAny (model P w) A (call (.builtin "set.discard") [.ref a, .int k tk]) Q E s := by
  have hS : s.heap.SetOf (intKind P w) a S n := R.setOf
  obtain ⟨o, es, ep, t, ho, hex, hd, g, nd, hm, hb, hf, hn, hr, hl⟩ := R
  refine wpAny_call_entry F.slot_set_discard hS.typeIs F.entry_set_discard ?_ (F.args_set_discard_2 _ _)
  unfold Builtin.«set.discard» Builtin.Frozenset.oneOther
  simp only [List.isEmpty_nil, bind_assoc]
  unfold Builtin.Frozenset.addrOf Builtin.Frozenset.withSetAsKey setDiscard
  refine wpAny_bind (wpAny_pure ?_)
  try dsimp only
  refine wpAny_bind (wpAny_pure ?_)
  try dsimp only
  refine wpAny_bind (wpAny_tryCatch ?_)
  refine wpAny_holding ?_
  refine wpAny_bind ((intKind P w).pyHash (intKind_is P w k tk) ?_)
  unfold setDiscardHashed
  refine wpAny_bind (find_at (s := { s with toks := s.toks + 1 }) ho hd g hb hf ?_)
  cases hfi : List.findIdx? (fun e => (intKind P w).is k e.2) es.toList with
  | none =>
    have hnk : k ∉ es.toList.map keyOf := fun z => by
      obtain ⟨e, he, q⟩ := (good_mem (P := P) (w := w) g k).1 z
      have c := List.findIdx?_eq_none_iff.mp hfi e he
      rw [q] at c
      cases c
    have hSk : S k = false := by
      cases q : S k with
      | false => rfl
      | true => exact absurd ((hm k).1 q) hnk
    dsimp only
    refine wpAny_pure ?_
    show wpAny _ _ (ret Value.none) _ _ _
    refine wpAny_pure ⟨_, rfl, hQ s.heap (Heap.SameBut.refl a s.heap) ?_⟩
    refine SetR.congr (S := S) ?_ fun j => ?_
    · rw [hSk, if_neg (by decide)]
      exact ⟨o, es, ep, t, ho, hex, hd, g, nd, hm, hb, hf, hn, hr, hl⟩
    · by_cases z : j = k
      · subst z
        rw [hSk, Bool.false_and]
      · rw [decide_eq_false z, Bool.not_false, Bool.and_true]
  | some i =>
    obtain ⟨hi, pi, _⟩ := List.findIdx?_eq_some_iff_getElem.mp hfi
    have hia : i < es.size := by rwa [Array.length_toList] at hi
    have hSk : S k = true := (hm k).2 ((good_mem (P := P) (w := w) g k).2 ⟨es.toList[i], List.getElem_mem hi, pi⟩)
    have hki : (es.toList.map keyOf)[i]? = some k := by
      rw [List.getElem?_map, List.getElem?_eq_getElem hi]
      show some (keyOf es.toList[i]) = some k
      rw [(good_is (P := P) (w := w) (g _ (List.getElem_mem hi)) k).1 pi]
    have hk2 : (SetTable.eraseAt es i).toList.map keyOf = (es.toList.map keyOf).erase k := by
      rw [toList_eraseAt, ← erase_idx nd hki, map_eraseIdx]
    have hsz : (SetTable.eraseAt es i).size = es.size - 1 := size_eraseAt hia
    have hb1 : (SetTable.eraseAt es i).size < scanBound := by omega
    have hf1 : (t.drop i).fits (SetTable.eraseAt es i).size = true := by
      rw [hsz]
      exact drop_fits hf hia
    dsimp only
    refine wpAny_bind (wpAny_setState_of ho hd hf ?_)
    dsimp only
    refine wpAny_bind (wpAny_storeSet_of ho hd ?_ (fits_of_scanBound hb1))
    refine wpAny_bind (wpAny_point ?_)
    refine wpAny_pure ?_
    show wpAny _ _ (ret Value.none) _ _ _
    refine wpAny_pure ⟨_, rfl, hQ _ (Heap.SameBut.update s.heap a _) ?_⟩
    rw [if_pos hSk]
    refine ⟨_, SetTable.eraseAt es i, _, t.drop i, store_at ho hd, hex, rfl, fun e he => ?_, ?_, fun j => ?_, hb1, hf1, by rw [hsz, hn], drop_ris hr, hl.imp id fun z => by rw [drop_led]; exact z⟩
    · rw [toList_eraseAt] at he
      exact g e (List.mem_of_mem_eraseIdx he)
    · rw [hk2]
      exact nd.erase k
    · rw [hk2, nd.mem_erase_iff, Bool.and_eq_true, Bool.not_eq_true', decide_eq_false_iff_not, hm j]
      exact And.comm
end
section
variable {X : Cx}
/-- set(t) -/
def rSetT (K : PySem.W.Frag) (w : World) : List V → Hp → VK → Prop := fun xs H Q => ∃ (l : Addr) (ns : List Int), xs = [V.ref l] ∧ SqT K H l (ns.map V.int) ∧ ns.length ≤ 1000 ∧ ∀ (a : Addr) (c : Nat), H a = none → c ≤ ns.length → Q (.ref a) (upd H a (SetO w a (fun j => decide (j ∈ ns)) c))
theorem cr_setT (hc : X.calm = true) : CallR X (.type "set") (rSetT X.K X.w) := by
  intro pins s σ H xs us Q I r h
  obtain ⟨l, ns, rfl, hq, hz, q⟩ := h
  rw [Vals.ref1 r]
  obtain ⟨its, rv, pt, _⟩ := I.tuple hq
  have hi : IntsAre its.toArray.toList ns := ints_of_vals rv
  refine call_set_tupI ns (I.ok.hd hc) (show s.heap.IsTuple l its.toArray from pt) hi (by unfold scanBound; omega) fun h' tk c R1 hcn k => ?_
  exact ⟨.ref s.heap.objs.size, upd H s.heap.objs.size (SetO X.w s.heap.objs.size (fun j => decide (j ∈ ns)) c), I.laid (t' := tk) k (Nat.le_refl _) (setO_new R1), rfl, q _ c (I.hok.fresh (Nat.le_refl _)) hcn⟩
/-- found.discard(k) -/
def rSDis (w : World) : V → List V → Hp → VK → Prop := fun x xs H Q => ∃ (a : Addr) (k : Int) (S : Int → Bool) (n : Nat), x = V.ref a ∧ xs = [V.int k] ∧ H a = some (SetO w a S n) ∧
  Q .non (upd H a (SetO w a (fun j => S j && !decide (j = k)) (if S k = true then n - 1 else n)))
theorem mt_sdis : MtR X "set.discard" (rSDis X.w) := by
  intro pins s σ H x xs v us Q I rx rxs h
  obtain ⟨a, k, S, n, rfl, rfl, ha, q⟩ := h
  cases rx
  cases rxs with
  | cons ry rt =>
    cases rt
    obtain ⟨tk, rfl⟩ := ry
    have R := setO_get I ha
    refine setR_discard R fun h' sb new => ?_
    have he : ∃ u, h'.get? a = some u := by
      have ⟨o, _, _, _, ho, _⟩ := new
      exact ⟨o, ho⟩
    exact ⟨.non, upd H a (SetO X.w a (fun j => S j && !decide (j = k)) (if S k = true then n - 1 else n)), I.write (e := a) (t' := s.toks + 1) (by rw [ha]; trivial) (.inl rfl) (fun b u hb hu => (sb.2 b hb).trans hu) he (setO_new new), rfl, q⟩
def tSDis (w : World) (to : TE) (t : TA) : TE := fun σ H Q => to σ H fun x H1 => (∃ a S n, x = V.ref a ∧ H1 a = some (SetO w a S n)) ∧ t σ H1 fun xs H2 => rSDis w x xs H2 Q
variable {o e : Expr} {es : List Expr} {to : TE} {t : TA} {apos cpos : Pos}
theorem pe_sdis (ho : PE X o to) (ha : PA X (e :: es) t)
    (hbase : attributeBase o "discard" X.env (eval o X.env) = eval o X.env := by rfl)
    (hfew : ((backTo cpos (starEach (e :: es) X.env)).all (fun x => !x.1) && (backToKw cpos (keywordEach [] X.env)).all (fun x => x.1.isSome)
      && decide ((e :: es).length + ([] : List Keyword).length + (if ([] : List Keyword).isEmpty then 0 else 1) < 30)) = true := by rfl)
    (hline : (apos.endLine == cpos.line) = true := by rfl) (hs : starEach (e :: es) X.env = (false, eval e X.env) :: starEach es X.env := by rfl) (hplain : (backTo cpos (starEach es X.env)).any (·.1) = false := by rfl) :
    PE X (.Call (.Attribute o "discard" apos) (e :: es) [] cpos) (tSDis X.w to t) := by
  refine ⟨fun pins s σ H Q I h => ?_⟩
  refine wpAny_Call_method_late hbase hfew hline rfl (thn (ho.run pins s σ H _ I h) fun v s1 ⟨x, H1, I1, r1, ty, q1⟩ => ?_)
  obtain ⟨a, S, n, rfl, hka⟩ := ty
  have R := setO_get I1 hka
  cases r1
  have hS : s1.heap.SetOf (intKind X.prog X.w) a S n := R.setOf
  refine ⟨"set", "set.discard", F.plainAttrs_set, F.slot_set_discard, F.type_set_discard, hS.typeIs, hS.noDict, ?_⟩
  have hA := ha.run cpos pins s1 σ H1 _ I1 q1
  rw [hs] at hA ⊢
  refine Calls.callWith_builtin (by show (false || (backTo cpos (starEach es X.env)).any (·.1)) = false; rw [hplain] <;> rfl) (Calls.evalArgs_plain ?_)
  exact thn hA fun us s2 ⟨vs, H2, I2, r2, q2⟩ => mt_sdis pins s2 σ H2 (.ref a) vs (.ref a) us Q I2 rfl r2 q2
end
end LmDisc

set_option maxHeartbeats 2000000
/-! Marks laid on a row, one by one. -/
namespace Lm
open PySem PySem.Spec PyProof.Rows L2 Evl LmDisc
theorem loose_len : ∀ {ns : List Int} {a : Int}, Loose ns → (∀ x ∈ ns, a ≤ x ∧ x ≤ 99) → a ≤ 101 → 2 * (ns.length : Int) ≤ 101 - a
  | [], a, _, _, h => by
    show 2 * ((0 : Nat) : Int) ≤ 101 - a
    omega
  | x :: r, a, h, hb, _ => by
    have h1 := List.pairwise_cons.mp h
    have bx := hb x List.mem_cons_self
    have ih := loose_len (ns := r) (a := x + 2) h1.2 (fun y hy => ⟨by have := h1.1 y hy; omega, (hb y (List.mem_cons_of_mem _ hy)).2⟩) (by omega)
    rw [List.length_cons]
    omega
/-! ### marks that lie apart -/
structure ApartI (ns : List Int) : Prop where
  nd : ns.Nodup
  ap : ∀ x ∈ ns, ∀ y ∈ ns, x + 1 ≠ y
  im : ∀ x ∈ ns, 0 ≤ x ∧ x ≤ 99
theorem loose_ap : ∀ {ns : List Int}, Loose ns → ∀ x ∈ ns, ∀ y ∈ ns, x + 1 ≠ y
  | [], _, x, hx, _, _ => by cases hx
  | a :: r, h, x, hx, y, hy => by
    have h1 := List.pairwise_cons.mp h
    rcases List.mem_cons.mp hx with ex | hx1
    · rcases List.mem_cons.mp hy with ey | hy1
      · omega
      · have := h1.1 y hy1
        omega
    · rcases List.mem_cons.mp hy with ey | hy1
      · have := h1.1 x hx1
        omega
      · exact loose_ap h1.2 x hx1 y hy1
theorem loose_apart {ns : List Int} (h : Loose ns) (hi : ∀ x ∈ ns, 0 ≤ x ∧ x ≤ 99) : ApartI ns := ⟨h.imp fun h => by omega, loose_ap h, hi⟩
theorem apart_cons {ns : List Int} {p : Int} (h : ApartI ns) (h0 : 0 ≤ p ∧ p ≤ 99) (h1 : p ∉ ns) (h2 : p + 1 ∉ ns) (h3 : p - 1 ∉ ns) : ApartI (p :: ns) where
  nd := List.nodup_cons.mpr ⟨h1, h.nd⟩
  ap := fun x hx y hy e => by
    rcases List.mem_cons.mp hx with ex | hx1
    · rcases List.mem_cons.mp hy with ey | hy1
      · omega
      · exact h2 (by rw [← ex, e]; exact hy1)
    · rcases List.mem_cons.mp hy with ey | hy1
      · exact h3 (by rw [← ey, ← e, show x + 1 - 1 = x by omega]; exact hx1)
      · exact h.ap x hx1 y hy1 e
  im := fun x hx => by
    rcases List.mem_cons.mp hx with rfl | hx
    · exact h0
    · exact h.im x hx
theorem apart_erase {ns : List Int} (h : ApartI ns) (p : Int) : ApartI (ns.erase p) :=
  ⟨h.nd.erase p, fun x hx y hy => h.ap x (List.mem_of_mem_erase hx) y (List.mem_of_mem_erase hy), fun x hx => h.im x (List.mem_of_mem_erase hx)⟩
theorem rise_loose {ns ks : List Int} (h : ApartI ns) (h1 : ks.Pairwise (· < ·)) (h2 : ∀ k, k ∈ ks ↔ k ∈ ns) : Loose ks :=
  h1.imp_of_mem fun {a b} ha hb lt => by
    have := h.ap a ((h2 a).mp ha) b ((h2 b).mp hb)
    omega
theorem apart_srt {ns : List Int} (h : ApartI ns) : (srt ns).Pairwise (· < ·) := by
  have n2 : (srt ns).Nodup := (srt_perm ns).nodup_iff.mpr h.nd
  have := (srt_rise ns).and n2
  exact this.imp fun ⟨a, b⟩ => by
    have : _ ≠ _ := b
    omega
theorem apart_len {ns : List Int} (h : ApartI ns) : ns.length ≤ 50 := by
  have e : ∀ k, k ∈ srt ns ↔ k ∈ ns := fun k => (srt_perm ns).mem_iff
  have l := loose_len (a := 0) (rise_loose h (apart_srt h) e) (fun x hx => h.im x ((e x).mp hx)) (by omega)
  rw [(srt_perm ns).length_eq] at l
  omega
theorem apart_row {ns ks : List Int} (h : ApartI ns) (h1 : ks.Pairwise (· < ·)) (h2 : ∀ k, k ∈ ks ↔ k ∈ ns) : worthI ns < fw 100 ∧ ks = rowI (worthI ns) := by
  have pm : ks.Perm ns := (List.perm_ext_iff_of_nodup (h1.imp fun h => Int.ne_of_lt h) h.nd).mpr h2
  have e : worthI ks = worthI ns := by
    unfold worthI
    exact sum_perm (pm.map _)
  obtain ⟨a, b⟩ := loose_row (rise_loose h h1 h2) fun x hx => h.im x ((h2 x).mp hx)
  rw [e] at a b
  exact ⟨a, b.symm⟩
/-! ### the way of the laying -/
theorem worth0 : ∀ ns : List Int, 0 ≤ worthI ns
  | [] => Int.le_refl 0
  | n :: ns => by
    have := worth0 ns
    have := fw_pos n.toNat
    show 0 ≤ fw n.toNat + worthI ns
    omega
theorem worth2 (ns ms : List Int) : worthI (ns ++ ms) = worthI ns + worthI ms := by
  unfold worthI
  rw [List.map_append, List.sum_append]
theorem weigh2 (ns ms : List Int) : weighI (ns ++ ms) = weighI ns + weighI ms := by
  unfold weighI
  rw [List.map_append, List.sum_append]
theorem worth_off {ns : List Int} {k : Int} (h : k ∈ ns) : worthI ns = fw k.toNat + worthI (ns.erase k) := sum_erase (fun i => fw i.toNat) h
theorem weigh_off {ns : List Int} {k : Int} (h : k ∈ ns) : weighI ns = mwI k + weighI (ns.erase k) := sum_erase mwI h
theorem left_two (m : Mv) : leftI [goA m, goB m] m = [] := by
  unfold leftI
  rw [List.erase_cons_head, List.erase_cons_head]
theorem come_worth {m : Mv} (h0 : 0 ≤ m.2) : worthI (comeI m) = fw (goA m).toNat + fw (goB m).toNat := by
  have k := worth_keeps (ns := [goA m, goB m]) h0 List.mem_cons_self (by rw [List.erase_cons_head]; exact List.mem_cons_self)
  have e : worthI (afterI [goA m, goB m] m) = worthI (comeI m) := by
    unfold afterI
    rw [left_two, List.nil_append]
    unfold worthI
    exact sum_perm ((srt_perm _).map _)
  rw [e] at k
  rw [k]
  show fw (goA m).toNat + (fw (goB m).toNat + 0) = _
  omega
theorem come_weigh {m : Mv} (h0 : 0 ≤ m.2) : weighI (comeI m) < mwI (goA m) + mwI (goB m) := by
  have k := weigh_less (ns := [goA m, goB m]) h0 List.mem_cons_self (by rw [List.erase_cons_head]; exact List.mem_cons_self)
  have e : weighI (afterI [goA m, goB m] m) = weighI (comeI m) := by
    unfold afterI
    rw [left_two, List.nil_append]
    unfold weighI
    exact sum_perm ((srt_perm _).map _)
  rw [e] at k
  have e2 : weighI [goA m, goB m] = mwI (goA m) + (mwI (goB m) + 0) := rfl
  omega
structure LayW (W T : Int) (ns ws : List Int) : Prop where
  ap : ApartI ns
  wi : ∀ x ∈ ws, 0 ≤ x ∧ x ≤ 99
  worth : worthI ns + worthI ws = W
  weigh : weighI ns + weighI ws ≤ T
def layM (ns ws : List Int) : Nat := (2 * weighI ns + 2 * weighI ws + ws.length).toNat
theorem weigh_pos3 : ∀ {ns : List Int}, (∀ x ∈ ns, 0 ≤ x ∧ x ≤ 99) → (ns.length : Int) ≤ weighI ns
  | [], _ => Int.le_refl 0
  | a :: r, h => by
    have ih := weigh_pos3 (ns := r) fun x hx => h x (List.mem_cons_of_mem _ hx)
    have h0 := (h a List.mem_cons_self).1
    have e : weighI (a :: r) = mwI a + weighI r := rfl
    have : 1 ≤ mwI a := by
      unfold mwI
      repeat' split
      all_goals omega
    rw [List.length_cons]
    omega
theorem lay_len {W T : Int} {ns ws : List Int} (h : LayW W T ns ws) : (ws.length : Int) ≤ T := by
  have h1 := weigh_pos3 h.wi
  have h2 := weigh_pos3 h.ap.im
  have h3 := h.weigh
  omega
theorem last_in {ws : List Int} {p : Int} (h : ∀ x ∈ ws ++ [p], 0 ≤ x ∧ x ≤ 99) : (0 ≤ p ∧ p ≤ 99) ∧ ∀ x ∈ ws, 0 ≤ x ∧ x ≤ 99 :=
  ⟨h p (List.mem_append_right _ List.mem_cons_self), fun x hx => h x (List.mem_append_left _ hx)⟩
theorem worth_last (ws : List Int) (p : Int) : worthI (ws ++ [p]) = worthI ws + fw p.toNat := by
  rw [worth2]
  show _ + (fw p.toNat + 0) = _
  omega
theorem weigh_last (ws : List Int) (p : Int) : weighI (ws ++ [p]) = weighI ws + mwI p := by
  rw [weigh2]
  show _ + (mwI p + 0) = _
  omega
theorem lay_put {W T : Int} {ns ws : List Int} {p : Int} (h : LayW W T ns (ws ++ [p])) (h1 : p ∉ ns) (h2 : p + 1 ∉ ns) (h3 : p - 1 ∉ ns) : LayW W T (p :: ns) ws ∧ layM (p :: ns) ws < layM ns (ws ++ [p]) := by
  obtain ⟨a, b⟩ := last_in h.wi
  have e1 : worthI (p :: ns) = fw p.toNat + worthI ns := rfl
  have e2 : weighI (p :: ns) = mwI p + weighI ns := rfl
  have w1 := h.worth
  have w2 := h.weigh
  rw [worth_last] at w1
  rw [weigh_last] at w2
  have q1 := weigh_pos3 b
  have q2 := weigh_pos3 h.ap.im
  have q3 := weigh_pos3 (apart_cons h.ap a h1 h2 h3).im
  refine ⟨⟨apart_cons h.ap a h1 h2 h3, b, by omega, by omega⟩, ?_⟩
  unfold layM
  rw [weigh_last, e2, List.length_append]
  show _ < (2 * weighI ns + 2 * (weighI ws + mwI p) + ((ws.length + 1 : Nat) : Int)).toNat
  rw [e2] at q3
  omega
/-- the two marks that go -/
def PairI (m : Mv) (p pt : Int) : Prop := (goA m = p ∧ goB m = pt) ∨ (goA m = pt ∧ goB m = p)
theorem pair_worth {m : Mv} {p pt : Int} (h : PairI m p pt) (h0 : 0 ≤ m.2) : worthI (comeI m) = fw p.toNat + fw pt.toNat ∧ weighI (comeI m) < mwI p + mwI pt := by
  have k1 := come_worth h0
  have k2 := come_weigh h0
  rcases h with ⟨rfl, rfl⟩ | ⟨rfl, rfl⟩
  · exact ⟨k1, k2⟩
  · exact ⟨by omega, by omega⟩
theorem lay_move {W T : Int} {ns ws : List Int} {p pt : Int} {m : Mv} (h : LayW W T ns (ws ++ [p])) (hm : PairI m p pt) (h0 : 0 ≤ m.2) (hp : pt ∈ ns) (ht : topI m ≤ 99) : LayW W T (ns.erase pt) (ws ++ comeI m) ∧ layM (ns.erase pt) (ws ++ comeI m) < layM ns (ws ++ [p]) := by
  obtain ⟨a, b⟩ := last_in h.wi
  obtain ⟨k1, k2⟩ := pair_worth hm h0
  have w1 := h.worth
  have w2 := h.weigh
  rw [worth_last, worth_off hp] at w1
  rw [weigh_last, weigh_off hp] at w2
  have q1 := weigh_pos3 b
  have q2 := weigh_pos3 (apart_erase h.ap pt).im
  have q4 := weigh_pos3 (come_in h0 ht)
  refine ⟨⟨apart_erase h.ap pt, fun x hx => ?_, by rw [worth2]; omega, by rw [weigh2]; omega⟩, ?_⟩
  · rcases List.mem_append.mp hx with hx | hx
    · exact b x hx
    · exact come_in h0 ht x hx
  · have cl := (come_len m).2
    unfold layM
    rw [weigh_last, weigh2, weigh_off hp, List.length_append, List.length_append]
    show _ < (2 * (mwI pt + weighI (ns.erase pt)) + 2 * (weighI ws + mwI p) + ((ws.length + 1 : Nat) : Int)).toNat
    omega
theorem lay_top {W T : Int} {ns ws : List Int} {p pt : Int} {m : Mv} (h : LayW W T ns (ws ++ [p])) (hm : PairI m p pt) (h0 : 0 ≤ m.2) (hp : pt ∈ ns) (ht : 99 < topI m) : fw 100 ≤ W := by
  obtain ⟨k1, _⟩ := pair_worth hm h0
  have w1 := h.worth
  rw [worth_last, worth_off hp] at w1
  have n1 := worth0 (ns.erase pt)
  have n2 := worth0 ws
  have t1 := worth_mem (come_top m).1
  have t2 := fw_mono (show 100 ≤ (topI m).toNat by omega)
  omega
theorem lay_start {ns ms : List Int} (h : Loose ns) (hi : ∀ x ∈ ns, 0 ≤ x ∧ x ≤ 99) (hm : ∀ x ∈ ms, 0 ≤ x ∧ x ≤ 99) (hz : ms.length ≤ 240) : LayW (worthI ns + worthI ms) 58000 ns ms := by
  have a := loose_apart h hi
  have l := apart_len a
  have w1 := weigh_le hi
  have w2 := weigh_le hm
  exact ⟨a, hm, rfl, by omega⟩
theorem lay_end {W T : Int} {ns ks : List Int} (h : LayW W T ns []) (h1 : ks.Pairwise (· < ·)) (h2 : ∀ k, k ∈ ks ↔ k ∈ ns) : W < fw 100 ∧ ks = rowI W := by
  have w1 := h.worth
  have e : worthI ([] : List Int) = 0 := rfl
  rw [e, Int.add_zero] at w1
  rw [← w1]
  exact apart_row h.ap h1 h2
/-- a row laid on: the row of both, or too great -/
def rLaid (C3 : Addr) : List PyData → Out → Prop := fun ds o => ∃ ns ms : List Int, ds = [.tuple (ns.map .int), .tuple (ms.map .int)] ∧ Loose ns ∧ (∀ x ∈ ns, 0 ≤ x ∧ x ≤ 99) ∧ (∀ x ∈ ms, 0 ≤ x ∧ x ≤ 99) ∧ ms.length ≤ 240 ∧
  o = if worthI ns + worthI ms < fw 100 then .val (.tuple ((rowI (worthI ns + worthI ms)).map .int)) else .err C3
/-! ### the first moves lead to an end -/
theorem path_first {S : Nat → List Int → Mv → Prop} (hS : ∀ i cur m, (fitI cur)[0]? = some m → S i cur m) {ns : List Int} (hp : pileI ns = true) (hz : ns.length ≤ 200) (hw : worthI ns < fw 100) : ∃ ms, PathI S ns ms ∧ movesI (endI ns ms) = [] := by
  have go : ∀ (k : Nat) (ms : List Mv), PathI S ns ms → (weighI (endI ns ms)).toNat ≤ k → ∃ ms, PathI S ns ms ∧ movesI (endI ns ms) = [] := by
    intro k
    induction k with
    | zero =>
      intro ms p hk
      by_cases z : movesI (endI ns ms) = []
      · exact ⟨ms, p, z⟩
      · exfalso
        have way := path_way hp hz p
        have hin := pile_in way.pile
        obtain ⟨m, hm⟩ := List.exists_mem_of_ne_nil _ z
        obtain ⟨g1, g2⟩ := (mem_moves hin m).mp hm
        have h1 := weigh_less (hin _ g1).1 g1 g2
        have w2 := way_step way hz hm (top_fits hin hm (by rw [way.worth]; exact hw))
        have h2 := weigh_pos3 (pile_in w2.pile)
        omega
    | succ k ih =>
      intro ms p hk
      by_cases z : movesI (endI ns ms) = []
      · exact ⟨ms, p, z⟩
      · have way := path_way hp hz p
        have hin := pile_in way.pile
        have fe := fit_all way.pile (by rw [way.worth]; exact hw)
        have l0 : 0 < (fitI (endI ns ms)).length := by
          rw [fe]
          exact List.length_pos_iff.mpr z
        have e0 := List.getElem?_eq_getElem l0
        obtain ⟨hm, ht⟩ := fit_mem.mp (List.mem_of_getElem? e0)
        obtain ⟨g1, g2⟩ := (mem_moves hin _).mp hm
        have h1 := weigh_less (hin _ g1).1 g1 g2
        have p2 := path_snoc p hm ht (hS _ _ _ e0)
        refine ih _ p2 ?_
        rw [end_snoc]
        omega
  exact go (weighI ns).toNat [] path_nil (Nat.le_refl _)
theorem path_keep {C : Nat → List Int → Hp → Prop} {ns : List Int} {M : Hp} (h0 : C 0 ns M) (h1 : ∀ i ns m M, C i ns M → C (i + 1) (afterI ns m) M) : ∀ (k : Nat) (ms : List Mv), ms.length = k → C ms.length (endI ns ms) M := by
  intro k
  induction k with
  | zero =>
    intro ms e
    rw [List.length_eq_zero_iff.mp e]
    exact h0
  | succ k ih =>
    intro ms hk
    have e : ms = ms.take k ++ [ms[k]'(by omega)] := by
      conv => lhs; rw [← List.take_length (l := ms), hk]
      rw [List.take_add_one, List.getElem?_eq_getElem (by omega)]
      rfl
    have h2 := h1 _ _ (ms[k]'(by omega)) _ (ih (ms.take k) (by rw [List.length_take]; omega))
    rw [← end_snoc, ← e] at h2
    have e3 : (ms.take k).length + 1 = ms.length := by
      rw [List.length_take]
      omega
    rwa [e3] at h2
end Lm

set_option maxHeartbeats 2000000
/-! max with a default; rows compared place by place; numbers drawn, put in order. -/
namespace Lm
open PySem PySem.Spec PyProof.Rows L2 Evl
/-- max(l, default=d) -/
def rMaxDf (K : PySem.W.Frag) : List V → List V → Hp → VK → Prop := fun vs zs H Q => ∃ (a : Addr) (ns : List Int) (d : Int), vs = [V.ref a] ∧ zs = [.int d] ∧ SqL K H a (ns.map V.int) ∧ (ns = [] → Q (.int d) H) ∧ ∀ m, m ∈ ns → (∀ y, y ∈ ns → y ≤ m) → Q (.int m) H
section
variable {X : Cx}
theorem cr_maxDf (hc : X.calm = true) (hu : X.A.units + 65 < cLine) : CallRK X (.builtin "max") ["default"] (rMaxDf X.K) := by
  rintro pins s σ H vs zs us ws Q I r rz ⟨a, ns, d, rfl, rfl, hs, q0, q⟩
  obtain ⟨its, rv, hl, _⟩ := I.list hs
  rw [Vals.ref1 r]
  obtain ⟨u, rfl, t, rfl⟩ := rz.one
  show wpAny _ _ (call (.builtin "max") [.ref a] [(Str.ofString "default", .int d t)]) _ _ _
  refine PySem.W.max_list_datum_default (xs := ns) (I.ok.hd hc) hl.isList ⟨[], LmCnt.readsAll_ints rv⟩ (by show X.A.units + 1 + 0 < cLine; omega) (fun e h' tk hk => ⟨.int d, H, I.kept hk, ⟨_, rfl⟩, q0 e⟩) fun y ys i v h' tk e _ hv hk => ?_
  subst e
  obtain ⟨m1, m2⟩ := LmCnt.maxOf_two ys y
  obtain ⟨as, rr⟩ := hv
  have rr2 : Reads h' v (.int (PySem.W.maxOf y ys)) as := rr
  cases rr2
  exact ⟨.int _, H, I.kept hk, ⟨_, rfl⟩, q _ m1 m2⟩
end
section
variable {K : PySem.W.Frag} {σ : L2.St} {G : Hp} {ta tb : TE} {ns : List Int}
theorem ed_maxDf {m d : Int} (h : EvD ta σ G (.list (ns.map .int))) (k : EvD tb σ G (.int d)) (h0 : ns = [] → d = m) (hm : ∀ k, k ∈ ns → (∀ y, y ∈ ns → y ≤ k) → k = m) : EvD (tCKw (rMaxDf K) (tCons ta tNil) (tCons tb tNil)) σ G (.int m) := fun H x Q q =>
  h H x _ fun v G1 H1 p r => (k.mono p.ext) H1 p.sub _ fun w G2 H2 p2 r2 => by
    cases r2
    cases r with
    | lst a b =>
      have e := b.ints
      subst e
      refine ⟨_, ns, d, rfl, rfl, .inl (.inl (p2.sub _ _ (p2.ext _ _ a))), fun e => ?_, fun k k1 k2 => ?_⟩
      · rw [h0 e]
        exact q _ G2 H2 (p.trans p2) (.int _)
      · rw [hm k k1 k2]
        exact q _ G2 H2 (p.trans p2) (.int _)
theorem ed_notInIntT {n : Int} (h : EvD ta σ G (.int n)) (k : EvD tb σ G (.tuple (ns.map .int))) : EvD (tOp (rIn K true) ta tb) σ G (.bool (!decide (n ∈ ns))) := fun H x Q q =>
  h H x _ fun v G1 H1 p r => (k.mono p.ext) H1 p.sub _ fun w G2 H2 p2 r2 => by
    cases r
    cases r2 with
    | tup a b =>
      have e := b.ints
      subst e
      refine ⟨_, _, rfl, .inr (.inl (rd_up p2.sub a)), rfl, flat_intV ns, ?_⟩
      rw [inV_ints]
      exact q _ G2 H2 (p.trans p2) (.bl _)
theorem ed_max2 {i j : Int} (h : EvD ta σ G (.int i)) (k : EvD tb σ G (.int j)) : EvD (tCB (fun xs H Q => ∃ i j, xs = [V.int i, V.int j] ∧ Q (V.int (if j > i then j else i)) H) (tCons ta (tCons tb tNil))) σ G (.int (if j > i then j else i)) := fun H x Q q =>
  h H x _ fun v G1 H1 p r => (k.mono p.ext) H1 p.sub _ fun w G2 H2 p2 r2 => by
    cases r
    cases r2
    exact ⟨i, j, rfl, q _ G2 H2 (p.trans p2) (.int _)⟩
end
theorem et_upq {t : TT} {b : Bool} {H : Hp} (h : EvT t σ G b) (x : Ex G H) : EvT t σ H b := fun H1 e Q q => h H1 (x.trans e) Q q
/-! ### the greatest place that the other hasn't -/
def mxI (ns : List Int) : Int := ns.foldr max (-1)
theorem mx_low : ∀ ns : List Int, -1 ≤ mxI ns
  | [] => Int.le_refl _
  | n :: ns => by
    have := mx_low ns
    show -1 ≤ max n (mxI ns)
    omega
theorem mx_ge : ∀ {ns : List Int} {y : Int}, y ∈ ns → y ≤ mxI ns
  | n :: ns, y, h => by
    show y ≤ max n (mxI ns)
    rcases List.mem_cons.mp h with rfl | h
    · omega
    · have := mx_ge h
      omega
theorem mx_le : ∀ {ns : List Int} {m : Int}, -1 ≤ m → (∀ y ∈ ns, y ≤ m) → mxI ns ≤ m
  | [], m, h, _ => h
  | n :: ns, m, h, k => by
    have := mx_le h fun y hy => k y (List.mem_cons_of_mem _ hy)
    have := k n List.mem_cons_self
    show max n (mxI ns) ≤ m
    omega
theorem mx_one {ns : List Int} (h0 : ∀ n ∈ ns, 0 ≤ n) {k : Int} (h1 : k ∈ ns) (h2 : ∀ y, y ∈ ns → y ≤ k) : k = mxI ns :=
  Int.le_antisymm (mx_ge h1) (mx_le (by have := h0 k h1; omega) h2)
theorem mx_same {ns ms : List Int} (h : ∀ y, y ∈ ns ↔ y ∈ ms) : mxI ns = mxI ms :=
  Int.le_antisymm (mx_le (mx_low ms) fun y hy => mx_ge ((h y).mp hy)) (mx_le (mx_low ns) fun y hy => mx_ge ((h y).mpr hy))
def loneI (ns ms : List Int) : Int := mxI (ns.filter fun n => !decide (n ∈ ms))
theorem lone_same {ns ms ns' ms' : List Int} (h1 : ∀ y, y ∈ ns ↔ y ∈ ns') (h2 : ∀ y, y ∈ ms ↔ y ∈ ms') : loneI ns ms = loneI ns' ms' := by
  unfold loneI
  refine mx_same fun y => ?_
  rw [List.mem_filter, List.mem_filter, h1, decide_eq_decide.mpr (h2 y)]
theorem lone_cons {k : Int} {A B : List Int} (h : ∀ x ∈ A, x < k) : loneI (k :: A) (k :: B) = loneI A B := by
  unfold loneI
  refine mx_same fun y => ?_
  rw [List.mem_filter, List.mem_filter]
  constructor
  · rintro ⟨h1, h2⟩
    have h3 : y ∉ k :: B := by simpa using h2
    rcases List.mem_cons.mp h1 with rfl | h1
    · exact absurd List.mem_cons_self h3
    · exact ⟨h1, by simpa using fun z => h3 (List.mem_cons_of_mem _ z)⟩
  · rintro ⟨h1, h2⟩
    have h3 : y ∉ B := by simpa using h2
    refine ⟨List.mem_cons_of_mem _ h1, ?_⟩
    have h4 : y ∉ k :: B := fun z => by
      rcases List.mem_cons.mp z with rfl | z
      · have := h y h1
        omega
      · exact h3 z
    simpa using h4
theorem lone_lt : ∀ (k : Nat) {a b : Int}, 0 ≤ a → a < b → b < fw k → loneI (grd k a) (grd k b) < loneI (grd k b) (grd k a)
  | 0, a, b, h0, h1, h2 => by
    have e0 : fw 0 = 1 := rfl
    omega
  | k + 1, a, b, h0, h1, h2 => by
    rw [grd_turn, grd_turn]
    by_cases zb : fw k ≤ b
    · rw [if_pos zb]
      have sb := grd_step h2 zb
      by_cases za : fw k ≤ a
      · rw [if_pos za, lone_cons fun x hx => (grd_below x hx).2, lone_cons fun x hx => (grd_below x hx).2]
        exact lone_lt k (by omega) (by omega) sb
      · rw [if_neg za]
        have l1 : loneI (grd k a) ((k : Int) :: grd k (b - fw k)) ≤ (k : Int) - 1 := by
          unfold loneI
          refine mx_le (by omega) fun y hy => ?_
          have := (grd_below y (List.mem_filter.mp hy).1).2
          omega
        have l2 : (k : Int) ≤ loneI ((k : Int) :: grd k (b - fw k)) (grd k a) := by
          unfold loneI
          refine mx_ge (List.mem_filter.mpr ⟨List.mem_cons_self, ?_⟩)
          have : (k : Int) ∉ grd k a := fun z => by
            have := (grd_below _ z).2
            omega
          simpa using this
        omega
    · rw [if_neg zb, if_neg (by omega)]
      exact lone_lt k h0 h1 (by omega)
/-- how two rows stand to each other, by places alone -/
def cmpI (ns ms : List Int) : Int := if loneI ns ms = loneI ms ns then 0 else if loneI ms ns < loneI ns ms then 1 else -1
def sgnI (a b : Int) : Int := if a = b then 0 else if b < a then 1 else -1
theorem row_lone (a b : Int) : loneI (rowI a) (rowI b) = loneI (grd 100 a) (grd 100 b) := lone_same (fun _ => List.mem_reverse) fun _ => List.mem_reverse
theorem cmp_rows {a b : Int} (a0 : 0 ≤ a) (a1 : a < fw 100) (b0 : 0 ≤ b) (b1 : b < fw 100) : cmpI (rowI a) (rowI b) = sgnI a b := by
  unfold cmpI sgnI
  by_cases e : a = b
  · subst e
    rw [if_pos rfl, if_pos rfl]
  · rw [if_neg e, row_lone a b, row_lone b a]
    by_cases l : b < a
    · have := lone_lt 100 b0 l a1
      rw [if_pos l, if_neg (by omega), if_pos (by omega)]
    · have := lone_lt 100 a0 (show a < b by omega) b1
      rw [if_neg l, if_neg (by omega), if_neg (by omega)]
def rLone : List PyData → Out → Prop := fun ds o => ∃ ns ms : List Int, ds = [.tuple (ns.map .int), .tuple (ms.map .int)] ∧ ns.length ≤ 1000 ∧ (∀ n ∈ ns, 0 ≤ n) ∧ o = .val (.int (loneI ns ms))
def cmpD : PyData → PyData → Int
  | .tuple a, .tuple b => cmpI (a.map toI) (b.map toI)
  | _, _ => 0
theorem toI_ints (ns : List Int) : (ns.map PyData.int).map toI = ns := by
  rw [List.map_map]
  exact (List.map_congr_left fun _ _ => rfl).trans (List.map_id ns)
theorem cmpD_ints (ns ms : List Int) : cmpD (.tuple (ns.map .int)) (.tuple (ms.map .int)) = cmpI ns ms := by
  show cmpI _ _ = _
  rw [toI_ints, toI_ints]
def cmpO (C : Addr) (d e : PyData) : Out := if isRowD d = true then (if isRowD e = true then .val (.int (cmpD d e)) else .err C) else .err C
def rCompare (C : Addr) : List PyData → Out → Prop := fun ds o => ∃ d e, ds = [d, e] ∧ plainD d = true ∧ plainD e = true ∧ o = cmpO C d e
theorem row_ints {d : PyData} (h : isRowD d = true) : ∃ ns : List Int, d = .tuple (ns.map .int) ∧ ns.length ≤ 240 ∧ ∀ n ∈ ns, 0 ≤ n := by
  have hp := isRow_pile h
  cases d with
  | tuple ds =>
    rw [isPile_tuple, Bool.and_eq_true, Bool.and_eq_true] at hp
    have e := places_ints hp.2.1
    rw [e] at hp
    refine ⟨ds.map toI, by rw [← e], ?_, fun n hn => ?_⟩
    · have := of_decide_eq_true hp.1
      rwa [List.length_map] at this
    · have h3 := List.all_eq_true.mp hp.2.1 (.int n) (List.mem_map_of_mem hn)
      have h4 : (decide (0 ≤ n) && decide (n ≤ 99)) = true := h3
      rw [Bool.and_eq_true] at h4
      exact of_decide_eq_true h4.1
  | _ => cases hp
def rowD (n : Int) : PyData := .tuple ((rowI n).map .int)
/-- a number that has a row -/
def OkN (n : Int) : Prop := 0 ≤ n ∧ n < fw 100
theorem row_cmp {C : Addr} {a b : Int} (ha : OkN a) (hb : OkN b) : rCompare C [rowD a, rowD b] (.val (.int (sgnI a b))) := by
  refine ⟨_, _, rfl, plain_ints _, plain_ints _, ?_⟩
  unfold cmpO rowD
  rw [row_isRow ha.2, row_isRow hb.2, if_pos rfl, if_pos rfl, cmpD_ints, cmp_rows ha.1 ha.2 hb.1 hb.2]
theorem eqv_lst2 : ∀ ms ns : List Int, PyData.eqv (.list (ms.map .int)) (.list (ns.map .int)) = decide (ms = ns)
  | [], [] => by rw [decide_eq_true rfl]; rfl
  | [], n :: r => by rw [decide_eq_false (by simp)]; rfl
  | n :: r, [] => by rw [decide_eq_false (by simp)]; rfl
  | m :: r, n :: t => by
    show (PyData.eqv (.int m) (.int n) && PyData.eqv (.list (r.map .int)) (.list (t.map .int))) = _
    rw [eqv_intI, eqv_lst2 r t, Bool.eq_iff_iff, Bool.and_eq_true, decide_eq_true_eq, decide_eq_true_eq, decide_eq_true_eq, List.cons.injEq]
theorem eqv_rows : ∀ xs : List Int, PyData.eqv (.list (xs.map rowD)) (.list (xs.map rowD)) = true
  | [] => rfl
  | x :: xs => by
    show (PyData.eqv (rowD x) (rowD x) && PyData.eqv (.list (xs.map rowD)) (.list (xs.map rowD))) = true
    rw [eqv_rows xs]
    unfold rowD
    rw [eqv_tup]
    rfl
theorem lay_rows : ∀ xs : List Int, PyData.canLayAll0 (xs.map rowD) = true ∧ PyData.depthAll (xs.map rowD) ≤ 1
  | [] => ⟨rfl, by decide⟩
  | x :: xs => by
    obtain ⟨h3, h4⟩ := lay_rows xs
    constructor
    · show (PyData.canLayAll0 ((rowI x).map .int) && PyData.canLayAll0 (xs.map rowD)) = true
      rw [lay_ints, h3]
      rfl
    · show max (PyData.depthAll ((rowI x).map .int) + 1) (PyData.depthAll (xs.map rowD)) ≤ 1
      rw [depth_ints]
      omega
theorem shaped_rows (xs : List Int) : SeqAt.shaped (.list (xs.map rowD)) = true := by
  obtain ⟨h3, h4⟩ := lay_rows xs
  show (PyData.canLayAll0 (xs.map rowD) && decide (PyData.depthAll (xs.map rowD) + 1 ≤ 64)) = true
  rw [h3, decide_eq_true (by omega)]
  rfl
/-! ### put in -/
theorem cut_to (ds : List PyData) (i : Nat) : cutD ds none (some (i : Int)) = ds.take i := by
  unfold cutD
  rw [HT.sIx_none, HT.sIx_nat, List.drop_zero, Nat.sub_zero]
  by_cases h : i ≤ ds.length
  · rw [Nat.min_eq_left h]
  · rw [Nat.min_eq_right (by omega), List.take_of_length_le (Nat.le_refl _), List.take_of_length_le (by omega)]
theorem cut_from (ds : List PyData) (i : Nat) (h : i ≤ ds.length) : cutD ds (some (i : Int)) none = ds.drop i := by
  unfold cutD
  rw [HT.sIx_none, HT.sIx_nat, Nat.min_eq_left h]
  exact List.take_of_length_le (by rw [List.length_drop]; exact Nat.le_refl _)
theorem ins_at (n : Int) : ∀ (xs : List Int) (i : Nat), i ≤ xs.length → (∀ x ∈ xs.take i, x < n) → (i < xs.length → ¬ xs.getD i 0 < n) → insI n xs = xs.take i ++ [n] ++ xs.drop i
  | [], i, h, _, _ => by
    rw [List.take_nil, List.drop_nil]
    rfl
  | x :: xs, 0, _, _, h2 => by
    have := h2 (Nat.zero_lt_succ _)
    have h3 : ¬ x < n := this
    show insI n (x :: xs) = n :: x :: xs
    unfold insI
    rw [if_pos (by omega)]
  | x :: xs, i + 1, h, h1, h2 => by
    have h3 : x < n := h1 x (by rw [List.take_succ_cons]; exact List.mem_cons_self)
    have ih := ins_at n xs i (by rw [List.length_cons] at h; omega) (fun y hy => h1 y (by rw [List.take_succ_cons]; exact List.mem_cons_of_mem _ hy)) fun hl => by
      have h4 := h2 (by rw [List.length_cons]; omega)
      rwa [List.getD_cons_succ] at h4
    rw [List.take_succ_cons, List.drop_succ_cons, List.cons_append, List.cons_append, ← ih]
    show (if n ≤ x then n :: x :: xs else x :: insI n xs) = _
    rw [if_neg (by omega)]
def rLPut : List PyData → Out → Prop := fun ds o => ∃ (xs : List Int) (n : Int), ds = [.list (xs.map rowD), rowD n] ∧ xs.length ≤ 1000 ∧ OkN n ∧ (∀ x ∈ xs, OkN x) ∧ o = .val (.list ((insI n xs).map rowD))
def putF (ms : List Int) : Nat → List Int
  | 0 => []
  | k + 1 => insI (ms.getD k 0) (putF ms k)
theorem putF_srt (ms : List Int) : ∀ k, k ≤ ms.length → putF ms k = srt (ms.take k) := by
  have key : ∀ k, k ≤ ms.length → (putF ms k).Perm (ms.take k) ∧ (putF ms k).Pairwise (· ≤ ·) := by
    intro k
    induction k with
    | zero => exact fun _ => ⟨.refl _, .nil⟩
    | succ k ih =>
      intro h
      obtain ⟨h1, h2⟩ := ih (by omega)
      refine ⟨?_, insI_rise _ h2⟩
      rw [List.take_add_one, List.getElem?_eq_getElem (by omega)]
      show (insI (ms.getD k 0) (putF ms k)).Perm (ms.take k ++ [ms[k]])
      rw [List.getD_eq_getElem?_getD, List.getElem?_eq_getElem (by omega)]
      exact (insI_perm _ _).trans ((h1.cons _).trans (List.perm_append_comm (l₁ := [ms[k]])))
  intro k h
  exact srt_one (key k h).1 (key k h).2
theorem putF_len (ms : List Int) : ∀ k, (putF ms k).length = k
  | 0 => rfl
  | k + 1 => by
    show (insI _ (putF ms k)).length = k + 1
    rw [(insI_perm _ _).length_eq, List.length_cons, putF_len ms k]
theorem putF_ok {ms : List Int} (h : ∀ x ∈ ms, OkN x) : ∀ k, k ≤ ms.length → ∀ x ∈ putF ms k, OkN x
  | 0, _, _, hx => by cases hx
  | k + 1, hk, x, hx => by
    rcases List.mem_cons.mp ((insI_perm _ _).mem_iff.mp hx) with rfl | hx
    · refine h _ ?_
      rw [List.getD_eq_getElem?_getD, List.getElem?_eq_getElem (by omega)]
      exact List.getElem_mem _
    · exact putF_ok h k (by omega) x hx
/-! ### the numbers of a script -/
def numStep (fs : List Int) (m : Int) : Int :=
  if ¬ fs = [] ∧ m % 4 = 1 then (if fs.getLastD 0 + m / 8 % 7 - 3 > 0 then fs.getLastD 0 + m / 8 % 7 - 3 else 0)
  else if ¬ fs = [] ∧ m % 4 = 2 then fs.getLastD 0 / fw (m / 8 % 40).toNat * fw (m / 8 % 40).toNat + m / 8 % 50
  else m / 8 * 48271 * 48271 % 10 ^ 20
def numsF (ns : List Int) : Nat → List Int
  | 0 => []
  | k + 1 => numsF ns k ++ [numStep (numsF ns k) (mixI (ns.getD k 0) (7 + (k : Nat)))]
def numsI (ns : List Int) : List Int := numsF (ns.take 40) (ns.take 40).length
theorem numsF_len (ns : List Int) : ∀ k, (numsF ns k).length = k
  | 0 => rfl
  | k + 1 => by
    show (numsF ns k ++ [_]).length = k + 1
    rw [List.length_append, numsF_len ns k]
    rfl
theorem lastD_mem {fs : List Int} (h : ¬ fs = []) : fs.getLastD 0 ∈ fs := by
  rw [List.getLastD_eq_getLast?, List.getLast?_eq_some_getLast h]
  exact List.getLast_mem h
theorem numStep_ok {fs : List Int} {m B : Int} (hB : 10 ^ 20 ≤ B) (h : ∀ x ∈ fs, 0 ≤ x ∧ x < B) (h0 : 0 ≤ m) : 0 ≤ numStep fs m ∧ numStep fs m < B + 50 := by
  unfold numStep
  split
  · rename_i c
    have := h _ (lastD_mem c.1)
    split <;> omega
  · split
    · rename_i c
      have := h _ (lastD_mem c.1)
      have w := fw_pos (m / 8 % 40).toNat
      have h1 := Int.ediv_mul_le (fs.getLastD 0) (b := fw (m / 8 % 40).toNat) (by omega)
      have h2 := Int.ediv_nonneg this.1 (show 0 ≤ fw (m / 8 % 40).toNat by omega)
      have h3 := Int.mul_nonneg h2 (show 0 ≤ fw (m / 8 % 40).toNat by omega)
      omega
    · omega
theorem numsF_ok (ns : List Int) : ∀ k : Nat, ∀ x ∈ numsF ns k, 0 ≤ x ∧ x < 10 ^ 20 + 50 * (k : Int)
  | 0, x, h => by cases h
  | k + 1, x, h => by
    have ih := numsF_ok ns k
    rcases List.mem_append.mp h with h | h
    · have := ih x h
      omega
    · have e := List.mem_singleton.mp h
      have := numStep_ok (B := 10 ^ 20 + 50 * (k : Int)) (m := mixI (ns.getD k 0) (7 + (k : Nat))) (by omega) ih (mixI_nn _ _)
      rw [e]
      omega
theorem nums_ok (ns : List Int) : ∀ x ∈ numsI ns, OkN x := fun x hx => by
  have := numsF_ok _ _ x hx
  have hl : (ns.take 40).length ≤ 40 := by
    rw [List.length_take]
    omega
  unfold OkN
  rw [fw100]
  omega
theorem nums_len (ns : List Int) : (numsI ns).length ≤ 40 := by
  unfold numsI
  rw [numsF_len, List.length_take]
  omega
def rLNums (K : PySem.W.Frag) : Hp → List PyData → Out → Prop := fun G ds o => ∃ (a : Addr) (ns : List Int), ds = [opq a] ∧ SqL K G a (ns.map V.int) ∧ ns.length ≤ 63 ∧ o = .val (.list ((numsI ns).map .int))
theorem fw40 {j : Nat} (h : j < 40) : 0 < fw j ∧ fw j < 1073741824 := by
  have h1 := fw_pos j
  have h2 := fw_mono (show j ≤ 39 by omega)
  have h3 : (fpI 39).1 = 165580141 := by decide +kernel
  rw [fp_eq] at h3
  have h4 : fw 39 = 165580141 := h3
  omega
section
variable {K : PySem.W.Frag} {σ : L2.St} {G G0 H H0 : Hp} {D : Ends} {tu tz : TS} {ns : List Int}
/-- a walk of numbers with their places, a list of one's own growing beside it -/
theorem d_forEnM {wi : TI} {j l : Nat} (P : Part G0 H0 G H) (h : EvI wi σ G (enD (ns.map .int))) (C : Hp → Nat → L2.St → Hp → Prop) (h0 : ∀ G1 H1, Part G H G1 H1 → C G1 0 σ H1) (hP : ∀ G1 k σ' H', C G1 k σ' H' → Part G0 H0 G1 H')
    (hs : ∀ (G1 : Hp) (k : Nat) (c : Int) (σ' : L2.St) (H1 H2 : Hp), k < ns.length → c = ns.getD k 0 → Ex G G1 → C G1 k σ' H1 → Ex H1 H2 → Part G0 H0 G1 H2 →
      tu { D with nx := C G1 (k + 1), ct := C G1 (k + 1), bk := tz D } ((σ'.set j (some (.int (k : Nat)))).set l (some (.int c))) H2)
    (hd : ∀ (G1 : Hp) (σ' : L2.St) (H' : Hp), Ex G G1 → C G1 ns.length σ' H' → tz D σ' H') :
    tSeq (tFor wi (gTup K 2 (gCons (gName j) (gCons (gName l) gNil))) tu) tz D σ H := by
  refine d_forM P h C h0 (fun G1 i σ' H' _ q => (hP G1 i σ' H' q).sub) (fun G1 i x σ' H1 H2 hi e1 q y => ?_) fun G1 σ' H' e1 q => hd G1 σ' H' e1 (by rw [enD_len, List.length_map] at q; exact q)
  have P1 := hP G1 i σ' H1 q
  obtain ⟨G', d, p, e3, r⟩ := y G1 (Ex.refl G1) P1.sub
  rw [enD_len, List.length_map] at hi
  rw [enD_ints, List.getElem?_map, List.getElem?_range hi] at e3
  have e4 := (Option.some.inj e3).symm
  subst e4
  cases r with
  | @tup T xs _ et b =>
    cases b with
    | cons r1 b =>
      cases b with
      | cons r2 b =>
        cases b
        cases r1
        cases r2
        exact ⟨T, _, rfl, .inl (rd_up p.sub et), rfl, _, _, rfl, _, _, rfl, rfl, hs G1 i _ σ' H1 H2 hi rfl e1 q p.old (P1.on p.old)⟩
/-- a, b = x, y, both sides written -/
theorem d_par {i j : Nat} {tr : TA} {d e : PyData} (P : Part G0 H0 G H) (h : EdA tr σ G [d, e]) (k : ∀ x y G' H', Part G0 H0 G' H' → Ex G G' → Ex H H' → Rp G' x d → Rp G' y e → tz D ((σ.set i (some x)).set j (some y)) H') : tSeq (tPar i j tr) tz D σ H :=
  h H P.sub _ fun vs G' H' p r => by
    obtain ⟨x, y, rfl, r1, r2⟩ := two r
    exact ⟨x, y, rfl, k x y G' H' (P.trans p) p.ext p.old r1 r2⟩
/-- a walk by one name, the part growing -/
theorem d_forC {wi : TI} {j : Nat} {its : List PyData} (P : Part G0 H0 G H) (h : EvI wi σ G its) (C : Nat → Hp → L2.St → Prop) (hC : ∀ G', Ex G G' → C 0 G' σ)
    (hs : ∀ (k : Nat) (d : PyData) (x : V) (σ' : L2.St) (G' H' : Hp) (N : L2.St → Hp → Prop), its[k]? = some d → Ex G G' → Part G0 H0 G' H' → Rp G' x d → C k G' σ' → (∀ σ2 G2 H2, C (k + 1) G2 σ2 → Ex G' G2 → Part G0 H0 G2 H2 → N σ2 H2) →
      tu { D with nx := N, ct := N, bk := tz D } (σ'.set j (some x)) H')
    (up : ∀ k σ' G1 G2, C k G1 σ' → Ex G1 G2 → C k G2 σ')
    (hd : ∀ (σ' : L2.St) (G' H' : Hp), C its.length G' σ' → Ex G G' → Part G0 H0 G' H' → tz D σ' H') :
    tSeq (tFor wi (gName j) tu) tz D σ H := by
  refine d_for P h (fun G1 i σ' H' => ∃ G', Ex G1 G' ∧ C i G' σ' ∧ Part G0 H0 G' H') (fun G1 H1 p _ _ => ⟨G1, Ex.refl _, hC G1 (by assumption), p⟩) (fun G1 i σ' H' _ ⟨G', e, _, q⟩ => e.trans q.sub) (fun G1 i x σ' H1 H' hi e1 q y => ?_) fun G1 σ' H' e1 q => ?_
  · obtain ⟨Gc, ec, c, P1⟩ := q
    obtain ⟨G', d, p, e3, r⟩ := y Gc ec P1.sub
    exact hs i d x σ' G' H' _ e3 (e1.trans (ec.trans p.ext)) (P1.trans p) r (up _ _ _ _ c p.ext) fun σ2 G2 H2 c2 x2 P2 => ⟨G2, (ec.trans p.ext).trans x2, c2, P2⟩
  · obtain ⟨G', e, c, P1⟩ := q
    exact hd σ' G' H' c (e1.trans e) P1
end
end Lm

set_option maxHeartbeats 2000000
/-! Sums of rows. -/
namespace Lm
open PySem PySem.Spec PyProof.Rows L2 Evl NdefX LamX
theorem row_half {n : Int} (h : n < fw 100) : (rowI n).length ≤ 50 := by
  have := loose_len (a := 0) (row_loose h) (fun x hx => row_in x hx) (by omega)
  omega
/-- rows are the rows of numbers -/
theorem row_num {d : PyData} (h : isRowD d = true) : ∃ n, OkN n ∧ d = rowD n := by
  obtain ⟨ns, rfl, hl, h0⟩ := row_ints h
  rw [isRow_ints, Bool.and_eq_true] at h
  have hi := pile_in h.1
  obtain ⟨h1, h2⟩ := loose_row (loose_near.mpr h.2) hi
  refine ⟨worthI ns, ⟨?_, h1⟩, ?_⟩
  · have := (loose_greedy (k := 100) (ms := ns.reverse) (List.pairwise_reverse.mpr (loose_near.mpr h.2)) fun x hx => by
      have := hi x (List.mem_reverse.mp hx)
      omega).2.1
    have e : worthI ns = (ns.reverse.map fun i => fw i.toNat).sum := by
      unfold worthI
      exact (sum_perm ((List.reverse_perm _).map _)).symm
    rw [e]
    exact this
  · unfold rowD
    rw [h2]
theorem worth_row {n : Int} (h : OkN n) : worthI (rowI n) = n := row_worth h.1 h.2
theorem row_pile {n : Int} (h : OkN n) : pileI (rowI n) = true := by
  have := isRow_pile (row_isRow h.2)
  rwa [isPile_ints] at this
theorem row_is {n : Int} (h : OkN n) : isRowD (rowD n) = true := row_isRow h.2
theorem row_plain (n : Int) : plainD (rowD n) = true := plain_ints _
theorem worth_app (ns ms : List Int) : worthI (ns ++ ms) = worthI ns + worthI ms := by
  unfold worthI
  rw [List.map_append, List.sum_append]
theorem worth_srt (ns : List Int) : worthI (srt ns) = worthI ns := by
  unfold worthI
  exact sum_perm ((srt_perm ns).map _)
/-- the marks of two rows together -/
def bothI (a b : Int) : List Int := srt (rowI a ++ rowI b)
theorem both_worth {a b : Int} (ha : OkN a) (hb : OkN b) : worthI (bothI a b) = a + b := by
  unfold bothI
  rw [worth_srt, worth_app, worth_row ha, worth_row hb]
theorem both_len {a b : Int} (ha : OkN a) (hb : OkN b) : (bothI a b).length ≤ 100 := by
  unfold bothI
  rw [srt_len, List.length_append]
  have := row_half ha.2
  have := row_half hb.2
  omega
theorem both_in (a b : Int) : (rowI a ++ rowI b).all inI = true := by
  rw [List.all_eq_true]
  intro x hx
  have h : 0 ≤ x ∧ x ≤ 99 := (List.mem_append.mp hx).elim (fun z => row_in x z) fun z => row_in x z
  unfold inI
  rw [decide_eq_true h.1, decide_eq_true h.2]
  rfl
theorem both_pile {a b : Int} (ha : OkN a) (hb : OkN b) : pileI (bothI a b) = true := by
  have h := both_len ha hb
  unfold bothI at *
  rw [srt_len] at h
  rw [pile_srt, both_in, decide_eq_true (by omega)]
  rfl
def rNeedRs (C1 : Addr) : List PyData → Out → Prop := fun ds o => ∃ d e, ds = [d, e] ∧ plainD d = true ∧ plainD e = true ∧ o = if (isRowD d && isRowD e) = true then .val .none else .err C1
section
variable (P : Program) (w : World) (K : PySem.W.Frag) (mg : Str → Option Value) (base : Heap)
/-- the row of a sum, whatever is picked -/
def spPlus (C1 C3 : Addr) : Sp := fun vs H Q E =>
  (∃ G d e v u pk, Ex G H ∧ vs = [v, u, pk] ∧ Rp G v d ∧ Rp G u e ∧ plainD d = true ∧ plainD e = true ∧ (isRowD d && isRowD e) = false ∧ ∀ H', Ex H H' → E (.ref C1) none H') ∨
  ∃ F M a b v u pk Fi C S, vs = [v, u, pk] ∧ Ex F H ∧ Ex M H ∧ Dis F M ∧ Rp F v (rowD a) ∧ Rp F u (rowD b) ∧ OkN a ∧ OkN b ∧ PkOk P w K mg base 3 pk Fi C S ∧ Ex Fi F ∧ C 0 (bothI a b) M ∧
    (a + b < fw 100 → ∀ v2 F' H', Part F (off H M) F' H' → Rp F' v2 (rowD (a + b)) → Q v2 H') ∧ (fw 100 ≤ a + b → ∀ H', Ex (off H M) H' → E (.ref C3) none H')
end
theorem part_off {F G' H H2 F' H' M : Hp} (p : Part F H G' H2) (P : Part G' (off H2 M) F' H') : Part F (off H M) F' H' where
  ext := p.ext.trans P.ext
  sub := P.sub
  old := (off_up p.old).trans P.old
  new := fun a o k n => by
    cases z : G' a with
    | some u => exact fresh_back off_ex (p.new a u z n)
    | none => exact fresh_back (off_up p.old) (P.new a o k z)
theorem off_nil {H : Hp} : off H (fun _ => none) = H := by
  funext a
  rfl
/-- what the sum of two things tells -/
def plusO (C1 C3 : Addr) (d e : PyData) : Out := if (isRowD d && isRowD e) = true then (if worthD d + worthD e < fw 100 then .val (rowD (worthD d + worthD e)) else .err C3) else .err C1
theorem plusO_rows {C1 C3 : Addr} {a b : Int} (ha : OkN a) (hb : OkN b) : plusO C1 C3 (rowD a) (rowD b) = if a + b < fw 100 then .val (rowD (a + b)) else .err C3 := by
  unfold plusO
  rw [if_pos (show (isRowD (rowD a) && isRowD (rowD b)) = true by rw [row_is ha, row_is hb]; rfl)]
  have e1 : worthD (rowD a) = a := by unfold rowD; rw [worthD_ints, worth_row ha]
  have e2 : worthD (rowD b) = b := by unfold rowD; rw [worthD_ints, worth_row hb]
  rw [e1, e2]
section
variable {P : Program} {w : World} {K : PySem.W.Frag} {mg : Str → Option Value} {base : Heap} {σ : L2.St} {G H : Hp} {ta tb : TE} {C0 C1 C3 : Addr} {E : XK} {d e : PyData} {o : Out}
theorem plus_ev {v u : V} {G1 H1 : Hp} {Q : VK} (x : Ex G1 H1) (r1 : Rp G1 v d) (r2 : Rp G1 u e) (p1 : plainD d = true) (p2 : plainD e = true) (q : Want (plusO C1 C3 d e) G1 H1 Q E) : spPlus P w K mg base C1 C3 [v, u, .non] H1 Q E := by
  cases hb : isRowD d && isRowD e with
  | false =>
    unfold plusO at q
    rw [hb, if_neg (by decide)] at q
    exact .inl ⟨G1, d, e, v, u, .non, x, rfl, r1, r2, p1, p2, hb, q⟩
  | true =>
    rw [Bool.and_eq_true] at hb
    obtain ⟨a, ha, rfl⟩ := row_num hb.1
    obtain ⟨b, hb2, rfl⟩ := row_num hb.2
    rw [plusO_rows ha hb2] at q
    refine .inr ⟨G1, fun _ => none, a, b, v, u, .non, fun _ => none, _, _, rfl, x, (fun _ _ h => by cases h), fun _ _ _ => rfl, r1, r2, ha, hb2, none_pk, (fun _ _ h => by cases h), trivial, fun hw v2 F' H' PF r3 => ?_, fun hw H' xx => ?_⟩
    · rw [if_pos hw] at q
      rw [off_nil] at PF
      exact q v2 F' H' PF r3
    · rw [if_neg (by omega)] at q
      rw [off_nil] at xx
      exact q H' xx
/-- a sum, asked straight, the pick left out -/
theorem ex_plus (h1 : EvD ta σ G d) (h2 : EvD tb σ G e) (p1 : plainD d = true) (p2 : plainD e = true) : EvX (tCall (spPlus P w K mg base C1 C3) [.non] E (tCons ta (tCons tb tNil))) E σ G (plusO C1 C3 d e) := fun H x Q q =>
  h1 H x _ fun v G1 H1 q1 r1 => (h2.mono q1.ext) H1 q1.sub _ fun u G2 H2 q2 r2 => plus_ev q2.sub (r1.up q2.ext) r2 p1 p2 (q.go (q1.trans q2))
theorem ed_plus {a b : Int} (h1 : EvD ta σ G (rowD a)) (h2 : EvD tb σ G (rowD b)) (ha : OkN a) (hb : OkN b) (hw : a + b < fw 100) : EvD (tCall (spPlus P w K mg base C1 C3) [.non] E (tCons ta (tCons tb tNil))) σ G (rowD (a + b)) := by
  have k := ex_plus (P := P) (w := w) (K := K) (mg := mg) (base := base) (C1 := C1) (C3 := C3) (E := E) h1 h2 (row_plain a) (row_plain b)
  rw [plusO_rows ha hb, if_pos hw] at k
  exact EvX.toD k
/-- .. in a try -/
theorem ed_plusT {kl fs : Nat} {R : ErrTxt K mg} {tf tl : TE} {dT : PyData} (hf : EvD tf σ G (opq fs)) (hl : EvD tl σ G (.list [d, e])) (F : Fr_ P w K mg base kl fs (dflS 3 (spPlus P w K mg base (R.c 1) (R.c 3)))) (kp : PySem.W.keepIn K (.ref fs) = true) (p1 : plainD d = true) (p2 : plainD e = true) (ht : Tried R (plusO (R.c 1) (R.c 3) d e) dT) :
    EvD (tCall (spT P w base R kl) [] E0 (tCons tf (tCons tl tNil))) σ G dT := fun H x Q q =>
  hf H x _ fun v G1 H1 p r => (hl.mono p.ext) H1 p.sub _ fun u G2 H2 p3 r2 => by
    cases r
    cases r2 with
    | @lst a xs _ e b =>
      have pz := p.trans p3
      obtain ⟨v, u, rfl, rv, ru⟩ := two b
      refine ⟨fs, _, a, _, rfl, pz.sub _ _ e, .inr rfl, F, .inl kp, fun H3 x3 => .inl ⟨rfl, plus_ev (pz.sub.trans x3) rv ru p1 p2 ?_⟩⟩
      cases z : plusO (R.c 1) (R.c 3) d _ with
      | val y =>
        rw [z] at ht
        have e2 : dT = y := ht
        subst e2
        exact fun v G' H' p4 r4 H5 x5 => q v G' H5 (((pz.on x3).trans p4).on x5) r4
      | err C =>
        rw [z] at ht
        obtain ⟨i, hi, hC, rfl⟩ := ht
        exact fun H' x4 => ⟨i, hi, by rw [hC], rfl, fun H5 x5 => q _ G2 H5 (pz.on (x3.trans (x4.trans x5))) (.str _)⟩
/-- a sum by a pick made on the spot, the tables beside -/
theorem q_plus {T : List NTab} {F : Hp} {cells : List Int} {a b : Int} {tp : TE} {Q : VK} (hM : ∀ (F' H' : Hp) (R : VK), Hold T F' H' → Ex F F' → (∀ F2 H3 f ls, Ex F' F2 → DatH F2 → PickIn T F2 H3 ls → PkOk P w K mg base 3 (.ref f) (off H3 (onl ls (.lst [.int 0]))) (pickC ls) (pickS cells) → FnH K H3 f → R (.ref f) H3) → tp σ H' R)
    (h : Hold T F H) (h1 : EvD ta σ F (rowD a)) (h2 : EvD tb σ F (rowD b)) (ha : OkN a) (hb : OkN b) (hw : a + b < fw 100)
    (k : ∀ v2 F' H', Hold T F' H' → Ex F F' → Rp F' v2 (rowD (a + b)) → Q v2 H') :
    tCall (spPlus P w K mg base C1 C3) [] E0 (tCons ta (tCons tb (tCons tp tNil))) σ H Q :=
  h1 H h.ex _ fun v G1 H1 p1 r1 => (h2.mono p1.ext) H1 p1.sub _ fun u G2 H2 p2 r2 => hM (dat G2) H2 _ ⟨dat_ex.trans p2.sub, dat_dat, tabs_up h.tab (p1.old.trans p2.old)⟩ (dat_mono h.dat (p1.ext.trans p2.ext)) fun F2 H3 f ls x d I hK _ =>
    .inr ⟨off H3 (onl ls (.lst [.int 0])), onl ls (.lst [.int 0]), a, b, v, u, .ref f, _, _, _, rfl, off_ex, I.eM, off_dis, ((r1.up p2.ext).dat.up x).up I.e1, (r2.dat.up x).up I.e1, ha, hb, hK, Ex.refl _, pickC_0 (both_pile ha hb) (by have := both_len ha hb; omega), fun hw v2 F' H' PF r3 =>
      k v2 (dat F') H' ⟨dat_ex.trans PF.sub, dat_dat, tabs_up I.t PF.old⟩ ((dat_mono h.dat (p1.ext.trans p2.ext)).trans (x.trans (dat_mono d (I.e1.trans PF.ext)))) r3.dat, fun z => by omega⟩
end
end Lm

set_option maxHeartbeats 2000000
/-! A row moved on a place, against the golden share. -/
namespace Lm
open PySem PySem.Spec PyProof.Rows L2 Evl
def ee : Nat → Int
  | 0 => 0
  | 1 => 1
  | n + 2 => ee n + ee (n + 1)
theorem ee_two (n : Nat) : ee (n + 2) = ee n + ee (n + 1) := rfl
theorem ee_nn : ∀ n, 0 ≤ ee n
  | 0 => by decide
  | 1 => by decide
  | n + 2 => by
    have := ee_nn n
    have := ee_nn (n + 1)
    rw [ee_two]
    omega
theorem ee_pos : ∀ n, 0 < ee (n + 1)
  | 0 => by decide
  | n + 1 => by
    have := ee_pos n
    have := ee_nn n
    rw [ee_two]
    omega
theorem ee_fw : ∀ n, ee (n + 2) = fw n
  | 0 => rfl
  | 1 => rfl
  | n + 2 => by
    rw [ee_two, ee_fw n, ee_fw (n + 1), fw_two]
def sg : Nat → Int
  | 0 => 1
  | n + 1 => -sg n
theorem sg_or : ∀ n, sg n = 1 ∨ sg n = -1
  | 0 => .inl rfl
  | n + 1 => by
    rcases sg_or n with h | h
    · exact .inr (by show -sg n = -1; rw [h])
    · exact .inl (by show -sg n = 1; rw [h]; rfl)
/-- how far a mark is from the share, m places up -/
def dd (m k : Nat) : Int := fw (k + 1) * fw m - fw k * fw (m + 1)
theorem dd_two (m k : Nat) : dd m (k + 2) = dd m k + dd m (k + 1) := by
  unfold dd
  rw [show fw (k + 2 + 1) = fw (k + 1) + fw (k + 2) from rfl, fw_two k]
  grind
theorem dd_zero : ∀ m, dd m 0 = ee m
  | 0 => by decide
  | 1 => by decide
  | m + 2 => by
    have h1 := dd_zero m
    have h2 := dd_zero (m + 1)
    unfold dd at *
    rw [ee_two, ← h1, ← h2, fw_two m, show fw (m + 2 + 1) = fw (m + 1) + fw (m + 2) from rfl, fw_two m]
    grind
theorem dd_one0 : ∀ m, 3 * fw (m + 1) - 2 * fw (m + 2) = -ee m
  | 0 => by decide
  | 1 => by decide
  | m + 2 => by
    have h1 := dd_one0 m
    have h2 := dd_one0 (m + 1)
    have a1 : fw (m + 2 + 1) = fw (m + 1) + fw (m + 2) := rfl
    have a2 : fw (m + 2 + 2) = fw (m + 2) + fw (m + 2 + 1) := rfl
    have a3 : fw (m + 1 + 1) = fw (m + 2) := rfl
    have a4 : fw (m + 1 + 2) = fw (m + 1) + fw (m + 2) := rfl
    have a5 := ee_two m
    omega
theorem dd_one (m : Nat) : dd (m + 1) 1 = -ee m := by
  rw [← dd_one0 m]
  rfl
theorem dd_is (m : Nat) : ∀ k, k ≤ m → dd m k = sg k * ee (m - k)
  | 0, _ => by
    rw [dd_zero, Nat.sub_zero]
    show ee m = 1 * ee m
    omega
  | 1, h => by
    obtain ⟨j, rfl⟩ : ∃ j, m = j + 1 := ⟨m - 1, by omega⟩
    rw [dd_one, Nat.add_sub_cancel]
    show -ee j = -1 * ee j
    omega
  | k + 2, h => by
    rw [dd_two, dd_is m k (by omega), dd_is m (k + 1) (by omega)]
    obtain ⟨j, hj⟩ : ∃ j, m - (k + 2) = j := ⟨_, rfl⟩
    rw [hj, show m - k = j + 2 by omega, show m - (k + 1) = j + 1 by omega, ee_two]
    show sg k * (ee j + ee (j + 1)) + -sg k * ee (j + 1) = - -sg k * ee j
    grind
def dv (m : Nat) (ns : List Int) : Int := (ns.map fun x => dd m x.toNat).sum
def upI (p : Int) (ns : List Int) : List Int := ns.map fun x => x + p
theorem dv_is (m : Nat) : ∀ {ns : List Int}, (∀ x ∈ ns, 0 ≤ x) → dv m ns = worthI (upI 1 ns) * fw m - worthI ns * fw (m + 1)
  | [], _ => by
    show (0 : Int) = 0 * fw m - 0 * fw (m + 1)
    omega
  | x :: ns, h => by
    have ih := dv_is m fun y hy => h y (List.mem_cons_of_mem x hy)
    have h0 := h x List.mem_cons_self
    show dd m x.toNat + dv m ns = (fw (x + 1).toNat + worthI (upI 1 ns)) * fw m - (fw x.toNat + worthI ns) * fw (m + 1)
    rw [ih, show (x + 1).toNat = x.toNat + 1 by omega]
    unfold dd
    grind
theorem dev_down {m : Nat} {D : Int} : ∀ (i j : Nat), -ee (m - (j + i)) < sg (j + i) * D → sg (j + i) * D < ee (m + 1 - (j + i)) → j + i < m → -ee (m - j) < sg j * D ∧ sg j * D < ee (m + 1 - j)
  | 0, j, h1, h2, _ => ⟨h1, h2⟩
  | i + 1, j, h1, h2, h => by
    have e : j + (i + 1) = (j + i) + 1 := rfl
    rw [e] at h1 h2 h
    obtain ⟨l, hl⟩ : ∃ l, m - (j + i + 1) = l := ⟨_, rfl⟩
    rw [hl] at h1
    rw [show m + 1 - (j + i + 1) = l + 1 by omega] at h2
    have s : sg (j + i + 1) = -sg (j + i) := rfl
    rw [s, Int.neg_mul] at h1 h2
    have p1 := ee_nn (l + 1)
    have p2 := ee_nn l
    refine dev_down i j ?_ ?_ (by omega)
    · rw [show m - (j + i) = l + 1 by omega]
      omega
    · rw [show m + 1 - (j + i) = l + 2 by omega, ee_two]
      omega
theorem dev_in {m : Nat} (hm : 102 ≤ m) : ∀ {ns : List Int} (j : Nat), Loose ns → (∀ x ∈ ns, (j : Int) ≤ x ∧ x ≤ 99) → j ≤ 101 → -ee (m - j) < sg j * dv m ns ∧ sg j * dv m ns < ee (m + 1 - j)
  | [], j, _, _, hj => by
    obtain ⟨l, hl⟩ : ∃ l, m - j = l + 1 := ⟨m - j - 1, by omega⟩
    rw [hl, show m + 1 - j = l + 1 + 1 by omega]
    have p1 := ee_pos l
    have p2 := ee_pos (l + 1)
    show -ee (l + 1) < sg j * 0 ∧ sg j * 0 < ee (l + 1 + 1)
    rw [Int.mul_zero]
    omega
  | x :: r, j, hl, hb, hj => by
    have h1 := List.pairwise_cons.mp hl
    have bx := hb x List.mem_cons_self
    obtain ⟨k, rfl⟩ : ∃ k : Nat, x = (k : Int) := ⟨x.toNat, by omega⟩
    obtain ⟨i, rfl⟩ : ∃ i, k = j + i := ⟨k - j, by omega⟩
    have ih := dev_in hm (ns := r) (j + i + 2) h1.2 (fun y hy => ⟨by have := h1.1 y hy; omega, (hb y (List.mem_cons_of_mem _ hy)).2⟩) (by omega)
    obtain ⟨l, el⟩ : ∃ l, m - (j + i + 2) = l := ⟨_, rfl⟩
    have e2 : m + 1 - (j + i + 2) = l + 1 := by omega
    rw [el, e2] at ih
    have s2 : sg (j + i + 2) = sg (j + i) := by show - -sg (j + i) = sg (j + i); omega
    rw [s2] at ih
    have ex : dv m (((j + i : Nat) : Int) :: r) = dd m (j + i) + dv m r := rfl
    have ed := dd_is m (j + i) (by omega)
    rw [show m - (j + i) = l + 2 by omega] at ed
    have sq : sg (j + i) * sg (j + i) = 1 := by
      rcases sg_or (j + i) with h | h <;> rw [h] <;> rfl
    have tot : sg (j + i) * dv m (((j + i : Nat) : Int) :: r) = ee (l + 2) + sg (j + i) * dv m r := by
      rw [ex, ed]
      grind
    have t2 := ee_two l
    have p0 := ee_nn l
    have p1 := ee_nn (l + 1)
    refine dev_down i j ?_ ?_ (by omega)
    · rw [tot, show m - (j + i) = l + 2 by omega]
      omega
    · rw [tot, show m + 1 - (j + i) = l + 1 + 2 by omega, ee_two (l + 1)]
      have t3 : ee (l + 1 + 1) = ee (l + 2) := rfl
      omega
def nn (m : Nat) : Int := fw (m + 1) * fw (m + 1) - fw (m + 1) * fw m - fw m * fw m
theorem nn_is : ∀ m, nn m = sg m
  | 0 => by decide
  | m + 1 => by
    have ih := nn_is m
    show nn (m + 1) = -sg m
    rw [← ih]
    unfold nn
    rw [show fw (m + 1 + 1) = fw m + fw (m + 1) from rfl]
    grind
theorem sg_even : ∀ k, sg (2 * k) = 1
  | 0 => rfl
  | k + 1 => by
    show - -sg (2 * k) = 1
    rw [sg_even k]
    rfl
theorem gold_id (a b p q : Int) : q * q * (b * b - b * a - a * a) = a * a * (p * p - p * q - q * q) - (a * p - b * q) * (a * p + b * q - a * q) := by grind
theorem gold_lt {a b p q : Int} (ha : 0 < a) (hb : 0 ≤ b) (hq : 0 < q) (hp : q < p) (hn : p * p - p * q - q * q = -1) (l : b * q < a * p) : b * b < b * a + a * a := by
  have i := gold_id a b p q
  rw [hn] at i
  have k1 : 0 ≤ (a * p - b * q) * (a * p + b * q - a * q) := by
    refine Int.mul_nonneg (by omega) ?_
    have a1 : 0 ≤ b * q := Int.mul_nonneg hb (by omega)
    have a2 : 0 ≤ a * (p - q) := Int.mul_nonneg (by omega) (by omega)
    rw [Int.mul_sub] at a2
    omega
  have k2 : 0 < a * a := Int.mul_pos ha ha
  have k4 : 0 < q * q := Int.mul_pos hq hq
  by_cases z : b * b < b * a + a * a
  · exact z
  · have : 0 ≤ q * q * (b * b - b * a - a * a) := Int.mul_nonneg (by omega) (by omega)
    omega
theorem gold_gt {a b p q : Int} (ha : 0 < a) (hb : 0 ≤ b) (hq : 0 < q) (hp : q < p) (hn : p * p - p * q - q * q = 1) (l : a * p < b * q) : b * a + a * a < b * b := by
  have i := gold_id a b p q
  rw [hn] at i
  have k1 : 0 ≤ (b * q - a * p) * (a * p + b * q - a * q) := by
    refine Int.mul_nonneg (by omega) ?_
    have a1 : 0 ≤ b * q := Int.mul_nonneg hb (by omega)
    have a2 : 0 ≤ a * (p - q) := Int.mul_nonneg (by omega) (by omega)
    rw [Int.mul_sub] at a2
    omega
  have k0 : (b * q - a * p) * (a * p + b * q - a * q) = -((a * p - b * q) * (a * p + b * q - a * q)) := by
    rw [← Int.neg_mul]
    congr 1
    omega
  have k2 : 0 < a * a := Int.mul_pos ha ha
  have k4 : 0 < q * q := Int.mul_pos hq hq
  by_cases z : b * a + a * a < b * b
  · exact z
  · have h1 : 0 ≤ q * q * (b * a + a * a - b * b) := Int.mul_nonneg (by omega) (by omega)
    have h2 : q * q * (b * a + a * a - b * b) = -(q * q * (b * b - b * a - a * a)) := by
      rw [← Int.mul_neg]
      congr 1
      omega
    omega
/-- THE SHARE -/
theorem share {ns : List Int} (hl : Loose ns) (hi : ∀ x ∈ ns, 0 ≤ x ∧ x ≤ 99) (h0 : 0 ≤ worthI ns) (h1 : 0 ≤ worthI (upI 1 ns)) :
    (worthI (upI 1 ns) + 1) * (worthI (upI 1 ns) + 1) < (worthI (upI 1 ns) + 1) * (worthI ns + 1) + (worthI ns + 1) * (worthI ns + 1) ∧
    (worthI (upI 1 ns) + 1 + 1) * (worthI ns + 1) + (worthI ns + 1) * (worthI ns + 1) < (worthI (upI 1 ns) + 1 + 1) * (worthI (upI 1 ns) + 1 + 1) := by
  have lin : ∀ m, 102 ≤ m → (worthI (upI 1 ns) + 1) * fw m < (worthI ns + 1) * fw (m + 1) ∧ (worthI ns + 1) * fw (m + 1) < (worthI (upI 1 ns) + 1 + 1) * fw m := fun m hm => by
    have h := dev_in hm (ns := ns) 0 hl (fun x hx => by have := hi x hx; omega) (by omega)
    rw [dv_is m fun x hx => (hi x hx).1] at h
    have e1 : sg 0 = 1 := rfl
    rw [e1, Int.one_mul, Nat.sub_zero, Nat.sub_zero] at h
    obtain ⟨j, rfl⟩ : ∃ j, m = j + 2 := ⟨m - 2, by omega⟩
    rw [show ee (j + 2 + 1) = fw (j + 1) from ee_fw (j + 1), ee_fw j] at h
    have f1 : fw (j + 2 + 1) = fw (j + 1) + fw (j + 2) := rfl
    have f2 := fw_two j
    have g1 : ∀ x y : Int, (x + 1) * y = x * y + y := fun x y => by rw [Int.add_mul, Int.one_mul]
    rw [g1 (worthI (upI 1 ns) + 1), g1 (worthI (upI 1 ns)), g1 (worthI ns)]
    omega
  have nv : ∀ m, fw (m + 1) * fw (m + 1) - fw (m + 1) * fw m - fw m * fw m = sg m := fun m => nn_is m
  refine ⟨gold_lt (by omega) (by omega) (by have := fw_pos 103; omega) (fw_up 103) (by rw [nv]; show -sg (2 * 51) = -1; rw [sg_even]) (lin 103 (by omega)).1,
    gold_gt (by omega) (by omega) (by have := fw_pos 102; omega) (fw_up 102) (by rw [nv]; exact sg_even 51) (lin 102 (by omega)).2⟩
end Lm

set_option maxHeartbeats 2000000
/-! Defs whose last parameter may be left out: a written number then. -/
namespace Lm
open PySem PySem.Spec PyProof.Rows L2 Evl NdefX
structure AtV (K : PySem.W.Frag) (mg : Str → Option Value) (x : Str) (ps : List Str) (st : Stmt) (f : Addr) (dv : V) : Prop where
  g : mg x = some (.ref f)
  ex : ∃ fd ds, FunD K x x (defArgs st) (defBody st) (defScope st) [dv] [] f fd ∧ Binds K fd ps [] ∧ Vals [dv] ds ∧ Binds K fd ps ds
structure HasV (P : Program) (w : World) (K : PySem.W.Frag) (mg : Str → Option Value) (base : Heap) (x : Str) (ps : List Str) (dv : V) (k : Nat) (sp : Sp) : Prop where
  ex : ∃ f fd ds, mg x = some (.ref f) ∧ PySem.W.keepIn K (.ref f) = true ∧ Binds K fd ps [] ∧ Vals [dv] ds ∧ Binds K fd ps ds ∧ FnOk P w K mg base (L2.CX P w) k f fd ps sp
section
variable {P : Program} {w : World} {K : PySem.W.Frag} {mg : Str → Option Value} {base : Heap} {x : Str} {ps N : List Str} {st : Stmt} {k j : Nat} {f : Addr} {sp : Sp} {dv : V}
theorem AtV.kp (a : AtV K mg x ps st f dv) : PySem.W.keepIn K (.ref f) = true := by
  obtain ⟨fd, ds, F, _⟩ := a.ex
  exact F.kp
theorem has_ofV (a : AtV K mg x ps st f dv) (S : FnScope N ps (defScope st)) (hl : ∀ vs H Q E, sp vs H Q E → vs.length = ps.length)
    (hbody : ∀ (cdv : Value) (A : Around) (outer : List Env) (s : Shared) (H : Hp) (vs : List V) (Q : VK) (E : XK), Room k (A.deeper (envOfC x (defScope st) s.heap.objs.size f cdv)) →
      (∃ t, PSs (cxOf (L2.CX P w) P w K mg base N x (defScope st) f cdv A outer s H E) (defBody st) t ∧ (sp vs H Q E → t { nx := fun _ H' => Q .non H', rt := Q } (start N vs) H))) : HasV P w K mg base x ps dv (k + 1) sp := by
  obtain ⟨fd, ds, F, b0, r, b1⟩ := a.ex
  refine ⟨f, fd, ds, a.g, F.kp, b0, r, b1, F.ok S hl (fun cdv A outer s H vs Q E hr h => ?_)⟩
  obtain ⟨t, h1, h2⟩ := hbody cdv A outer s H vs Q E hr
  exact ⟨t, h1, h2 h⟩
theorem HasV.has (h : HasV P w K mg base x ps dv k sp) : Has P w K mg base x ps k sp := by
  obtain ⟨f, fd, ds, h1, h2, h3, _, _, h4⟩ := h.ex
  exact ⟨f, fd, h1, h2, h3, h4⟩
/-- its promise whether the last one is left out or not -/
def dflV (n : Nat) (dv : V) (sp : Sp) : Sp := fun vs H Q E => (vs.length + 1 = n ∧ sp (vs ++ [dv]) H Q E) ∨ (vs.length = n ∧ sp vs H Q E)
theorem HasV.fnr (h : HasV P w K mg base x ps dv k sp) (g : mg x = some (.ref f)) (hk : k ≤ j) : Fr_ P w K mg base j f (dflV ps.length dv sp) := by
  obtain ⟨f', fd, ds, h1, h2, h3, r1, h5, h4⟩ := h.ex
  rw [g] at h1
  cases h1
  intro A outer s H us vs Q E hr e0 r hsp
  rcases hsp with ⟨_, hsp⟩ | ⟨_, hsp⟩
  · exact ((h4.mono hk).raw h5 r1) A outer s H us vs Q E hr e0 r hsp
  · exact ((h4.mono hk).raw h3 .nil) A outer s H us vs Q E hr e0 r (by show sp (vs ++ []) H Q E; rw [List.append_nil]; exact hsp)
end
section
variable {X : Cx} {x : Str} {ps : List Str} {k : Nat} {sp : Sp} {dv : V} {E : XK} {p pos : Pos} {e : Expr} {es : List Expr} {t : TA}
/-- f(..), the last one left out -/
theorem pe_callV (h : HasV X.prog X.w X.K X.mg X.base x ps dv k sp) (hr : Room k X.A) (hg : Gl X x) (hx : Passes (L2.CX X.prog X.w) X E) (ha : PA X (e :: es) t) (hdb : (x == ("__debug__" : Str)) = false := by decide)
    (he : starEach (e :: es) X.env = (false, eval e X.env) :: starEach es X.env := by rfl) (hpl : (backTo pos (starEach es X.env)).any (·.1) = false := by rfl) : PE X (.Call (.Name x p) (e :: es) [] pos) (tCall sp [dv] E t) := by
  obtain ⟨f, fd, ds, h1, h2, h3, r1, h5, h4⟩ := h.ex
  exact pe_call h4 hr hg h1 h2 h5 r1 hx ha hdb he hpl
end
section
variable {K : PySem.W.Frag} {mg : Str → Option Value} {x : Str} {ps : List Str} {st : Stmt} {f T : Addr} {oc kV doc pm cd ct u : Value} {od an : Option Addr} {sl : Array (Option Value)} {ob : Obj} {n : Nat} {dv : V}
/-- .. from the facts that the top leaves -/
theorem atV_mk (g : mg x = some (.ref f)) (l : K.lookup f = some ⟨oc, od, .func (PySem.W.fnOf x x (defArgs st) (defBody st) (defScope st) (.ref T) kV doc pm an cd ct), sl⟩) (c : PySem.W.codeIn K cd x = true) (kp : PySem.W.keepIn K (.ref f) = true)
    (lT : K.lookup T = some ob) (oT : ob.data = .seq #[u] n) (ru : RelV dv u)
    (b0 : ∀ (T : Addr) (kV doc pm : Value) (an : Option Addr) (cdv ct : Value) (us its : List Value), us.length = ps.length → its.length = 1 → ∃ k, bindArgs (PySem.W.fnOf x x (defArgs st) (defBody st) (defScope st) (.ref T) kV doc pm an cdv ct) ⟨us, []⟩ = seqItems? (.ref T) >>= k ∧ k (some its.toArray) = pure (ps.zip (us ++ its.drop 1)))
    (b1 : ∀ (T : Addr) (kV doc pm : Value) (an : Option Addr) (cdv ct : Value) (us its : List Value), us.length + 1 = ps.length → its.length = 1 → ∃ k, bindArgs (PySem.W.fnOf x x (defArgs st) (defBody st) (defScope st) (.ref T) kV doc pm an cdv ct) ⟨us, []⟩ = seqItems? (.ref T) >>= k ∧ k (some its.toArray) = pure (ps.zip (us ++ its.drop 0)))
    (hps : 0 < ps.length) : AtV K mg x ps st f dv := by
  have F : FunD K x x (defArgs st) (defBody st) (defScope st) [dv] [] f (PySem.W.fnOf x x (defArgs st) (defBody st) (defScope st) (.ref T) kV doc pm an cd ct) := ⟨⟨oc, od, .ref T, kV, doc, pm, an, cd, ct, sl, rfl, l, c, .inr ⟨by simp, T, ob, [u], n, rfl, lT, oT, .cons ru .nil⟩, .inl rfl⟩, kp⟩
  obtain ⟨ds0, r0, B0⟩ := F.binds1 (ps := ps) ps.length 1 (by simp) (by simp) fun T kV doc pm an cdv ct us its h1 h2 => b0 T kV doc pm an cdv ct us its h1 h2
  obtain ⟨ds1, r1, B1⟩ := F.binds1 (ps := ps) (ps.length - 1) 0 (by simp) (by simp; omega) fun T kV doc pm an cdv ct us its h1 h2 => b1 T kV doc pm an cdv ct us its (by omega) h2
  cases r0
  exact ⟨g, _, ds1, F, B0, r1, B1⟩
end
end Lm

set_option maxHeartbeats 2000000
/-! Many sums: numbers drawn, folded two by two; walks over a range with the tables beside. -/
namespace Lm
open PySem PySem.Spec PyProof.Rows L2 Evl NdefX LamX
theorem row0 : rowI 0 = [] := by
  unfold rowI
  rw [grd_small (j := 0) (Nat.zero_le 100) (by decide)]
  rfl
theorem ok0 : OkN 0 := ⟨Int.le_refl 0, by rw [fw100]; decide⟩
/-! ### sums of lists -/
theorem sum_nn : ∀ {ns : List Int}, (∀ x ∈ ns, 0 ≤ x) → 0 ≤ ns.sum
  | [], _ => Int.le_refl 0
  | n :: ns, h => by
    have := sum_nn (ns := ns) fun x hx => h x (List.mem_cons_of_mem _ hx)
    have := h n List.mem_cons_self
    rw [List.sum_cons]
    omega
theorem mem_le_sum : ∀ {ns : List Int}, (∀ x ∈ ns, 0 ≤ x) → ∀ x ∈ ns, x ≤ ns.sum
  | n :: ns, h, x, hx => by
    have a := sum_nn (ns := ns) fun x hx => h x (List.mem_cons_of_mem _ hx)
    have b := h n List.mem_cons_self
    rw [List.sum_cons]
    rcases List.mem_cons.mp hx with rfl | hx
    · omega
    · have := mem_le_sum (fun x hx => h x (List.mem_cons_of_mem n hx)) x hx
      omega
theorem sum_le_mul {B : Int} : ∀ {ns : List Int}, (∀ x ∈ ns, x ≤ B) → ns.sum ≤ ns.length * B
  | [], _ => by simp
  | n :: ns, h => by
    have a := sum_le_mul (ns := ns) fun x hx => h x (List.mem_cons_of_mem _ hx)
    have b := h n List.mem_cons_self
    rw [List.sum_cons, List.length_cons]
    have : ((ns.length + 1 : Nat) : Int) * B = (ns.length : Int) * B + B := by
      rw [Int.natCast_add, Int.add_mul]
      simp
    omega
theorem getD_in {ns : List Int} {k : Nat} (h : k < ns.length) : ns.getD k 0 ∈ ns := by
  rw [List.getD_eq_getElem?_getD, List.getElem?_eq_getElem h]
  exact List.getElem_mem h
theorem take_sum {ns : List Int} {k : Nat} (h : k < ns.length) : (ns.take (k + 1)).sum = (ns.take k).sum + ns.getD k 0 := by
  rw [List.take_add_one, List.getElem?_eq_getElem h, List.sum_append, List.getD_eq_getElem?_getD, List.getElem?_eq_getElem h]
  show _ + (ns[k] + 0) = _ + ns[k]
  omega
theorem drop_sum {ns : List Int} {k : Nat} (h : k < ns.length) : (ns.drop k).sum = ns.getD k 0 + (ns.drop (k + 1)).sum := by
  rw [List.drop_eq_getElem_cons h, List.sum_cons, List.getD_eq_getElem?_getD, List.getElem?_eq_getElem h]
  rfl
theorem parts_sum (ns : List Int) (k : Nat) : (ns.take k).sum + (ns.drop k).sum = ns.sum := by
  rw [← List.sum_append, List.take_append_drop]
theorem take_nn {ns : List Int} (h : ∀ x ∈ ns, 0 ≤ x) (k : Nat) : 0 ≤ (ns.take k).sum ∧ (ns.take k).sum ≤ ns.sum ∧ 0 ≤ (ns.drop k).sum ∧ (ns.drop k).sum ≤ ns.sum := by
  have a := sum_nn (ns := ns.take k) fun x hx => h x (List.mem_of_mem_take hx)
  have b := sum_nn (ns := ns.drop k) fun x hx => h x (List.mem_of_mem_drop hx)
  have c := parts_sum ns k
  omega
/-! ### two by two -/
def foldP : List Int → List Int
  | a :: b :: r => (a + b) :: foldP r
  | l => l
theorem fold_sum : ∀ ns : List Int, (foldP ns).sum = ns.sum
  | [] => rfl
  | [_] => rfl
  | a :: b :: r => by
    show (a + b) + (foldP r).sum = a + (b + r.sum)
    rw [fold_sum r]
    omega
theorem fold_nn : ∀ {ns : List Int}, (∀ x ∈ ns, 0 ≤ x) → ∀ x ∈ foldP ns, 0 ≤ x
  | [], _, x, hx => by cases hx
  | [a], h, x, hx => h x hx
  | a :: b :: r, h, x, hx => by
    rcases List.mem_cons.mp (show x ∈ (a + b) :: foldP r from hx) with rfl | hx
    · have := h a List.mem_cons_self
      have := h b (List.mem_cons_of_mem _ List.mem_cons_self)
      omega
    · exact fold_nn (fun y hy => h y (List.mem_cons_of_mem _ (List.mem_cons_of_mem _ hy))) x hx
theorem fold_len : ∀ ns : List Int, (foldP ns).length = (ns.length + 1) / 2
  | [] => by decide
  | [_] => by show 1 = (0 + 1 + 1) / 2; omega
  | a :: b :: r => by
    show (foldP r).length + 1 = (r.length + 1 + 1 + 1) / 2
    rw [fold_len r]
    omega
theorem fold_pairs : ∀ ns : List Int, foldP ns = ((List.range (ns.length / 2)).map fun k => ns.getD (2 * k) 0 + ns.getD (2 * k + 1) 0) ++ ns.drop (ns.length - ns.length % 2)
  | [] => rfl
  | [a] => by
    have e : ([a] : List Int).length = 1 := rfl
    rw [e]
    rfl
  | a :: b :: r => by
    have ih := fold_pairs r
    have e1 : (a :: b :: r).length / 2 = r.length / 2 + 1 := by
      rw [List.length_cons, List.length_cons]
      omega
    have e2 : (a :: b :: r).length - (a :: b :: r).length % 2 = (r.length - r.length % 2) + 2 := by
      rw [List.length_cons, List.length_cons]
      omega
    rw [e1, e2, List.range_succ_eq_map, List.map_cons, List.map_map]
    show (a + b) :: foldP r = (a + b) :: (_ ++ _)
    rw [ih]
    rfl
section
variable {P : Program} {w : World} {K : PySem.W.Frag} {mg : Str → Option Value} {base : Heap} {T : List NTab} {σ : L2.St} {G G0 H H0 F : Hp} {ta tb tc te : TE} {t : TT} {D : Ends} {tu tw tz : TS} {E : XK} {o : Out} {a b c d : PyData}
theorem d_drop1 (P : Part G0 H0 G H) (h : EvX te E σ G o) (k : ∀ d, o = .val d → ∀ H', Part G0 H0 G H' → Ex H H' → D.nx σ H') (q : ∀ C, o = .err C → ∀ H', Ex H0 H' → E (.ref C) none H') : tDrop te D σ H :=
  h H P.sub _ (by
    cases o with
    | val d => exact fun v G' H' p r => k d rfl H' (P.on p.old) p.old
    | err C => exact fun H' x => q C rfl H' (P.old.trans x))
/-- x, y, z = three things -/
theorem d_unp3 {i j l : Nat} (P : Part G0 H0 G H) (h : EvD te σ G (.tuple [a, b, c])) (k : ∀ x y z G' H', Part G0 H0 G' H' → Ex G G' → Ex H H' → Rp G' x a → Rp G' y b → Rp G' z c → tz D (((σ.set i (some x)).set j (some y)).set l (some z)) H') :
    tSeq (tAsg te (gTup K 3 (gCons (gName i) (gCons (gName j) (gCons (gName l) gNil))))) tz D σ H := h H P.sub _ fun v G' H' p r => by
  cases r with
  | @tup T xs _ et c =>
    obtain ⟨x, y, z, rfl, r1, r2, r3⟩ := three c
    exact ⟨T, _, rfl, .inl (rd_up p.sub et), rfl, _, _, rfl, _, _, rfl, _, _, rfl, rfl, k _ _ _ G' H' (P.trans p) p.ext p.old r1 r2 r3⟩
/-! ### ranges with a step -/
def rgS (i c : Int) (n : Nat) : List PyData := (List.range n).map fun k : Nat => .int (i + (k : Nat) * c)
theorem rgS_len {i c : Int} {n : Nat} : (rgS i c n).length = n := by
  unfold rgS
  rw [List.length_map, List.length_range]
theorem rgS_at {i c : Int} {n k : Nat} (h : k < n) : (rgS i c n)[k]? = some (.int (i + (k : Nat) * c)) := by
  unfold rgS
  rw [List.getElem?_map, List.getElem?_range h]
  rfl
theorem ei_rngS {i j c : Int} {n : Nat} (h : EvD ta σ G (.int i)) (k : EvD tb σ G (.int j)) (l : EvD tc σ G (.int c)) (hc : RgC i j c n) : EvI (iRng3 (tCons ta (tCons tb (tCons tc tNil)))) σ G (rgS i c n) := fun H x R q =>
  h H x _ fun v G1 H1 p r => (k.mono p.ext) H1 p.sub _ fun w G2 H2 p2 r2 => (l.mono (p.ext.trans p2.ext)) H2 p2.sub _ fun u G3 H3 p3 r3 => by
    cases r
    cases r2
    cases r3
    refine ⟨i, j, c, n, rfl, hc, q _ G3 H3 (p.trans (p2.trans p3)) ?_⟩
    rw [rgS_len]
    refine ⟨fun i H hi _ => hi, fun H _ => Nat.le_refl _, fun m H y H' hi _ hy Gc c1 c2 => ?_⟩
    obtain ⟨rfl, rfl⟩ := hy
    exact ⟨Gc, _, Part.refl c2, rgS_at hi, .int _⟩
theorem rgC2 {m : Nat} (h : m ≤ 64) (h1 : 1 < m) : RgC 0 ((m : Int) - 1) 2 (m / 2) := by
  have all : ∀ k : Fin 65, 1 < k.val → (2 : Int) ≠ 0 ∧ (2 : Int).natAbs < 1073741824 ∧ Builtin.Range.small 0 (((k : Nat) : Int) - 1) 2 = true ∧ Builtin.Range.rangeSize 0 (((k : Nat) : Int) - 1) 2 = ((k : Nat) / 2 : Nat) := by decide +kernel
  exact all ⟨m, by omega⟩ h1
/-! ### the tables beside -/
theorem h_forRng {j n : Nat} (h : Hold T F H) (he : EvD te σ F (.int (n : Nat))) (hn : n ≤ 100000) (C : Nat → Hp → L2.St → Prop) (hC : C 0 F σ)
    (hs : ∀ (k : Nat) (σ' : L2.St) (F' H' : Hp) (N : L2.St → Hp → Prop), k < n → Hold T F' H' → Ex F F' → C k F' σ' → (∀ σ2 F2 H2, C (k + 1) F2 σ2 → Ex F' F2 → Hold T F2 H2 → N σ2 H2) → tu { D with nx := N, ct := N, bk := tz D } (σ'.set j (some (.int (k : Nat)))) H')
    (hd : ∀ (σ' : L2.St) (F' H' : Hp), C n F' σ' → Ex F F' → Hold T F' H' → tz D σ' H') : tSeq (tFor (iRng1 (tCons te tNil)) (gName j) tu) tz D σ H :=
  he H h.ex _ fun v G1 H1 p r => by
    cases r
    refine ⟨((n : Nat) : Int), rfl, by omega, by omega, ?_⟩
    rw [Int.toNat_natCast]
    refine for_it (D := { D with nx := tz D }) walk_range (fun i σ' H' => ∃ F', Ex F F' ∧ C i F' σ' ∧ Hold T F' H') ⟨F, Ex.refl _, hC, h.up p.old⟩ (fun _ _ _ _ _ => trivial) (fun i x σ' Ha Hb hi ⟨F', e, c, hh⟩ y => ?_) fun σ' H' ⟨F', e, c, hh⟩ => hd σ' F' H' c e hh
    obtain ⟨rfl, rfl⟩ := y
    show gName j (.int (0 + (i : Nat))) σ' _ _
    rw [Int.zero_add]
    exact hs i σ' F' _ _ hi hh e c fun σ2 F2 H2 c2 e2 h2 => ⟨F2, e.trans e2, c2, h2⟩
theorem h_asg1 {i : Nat} (h : Hold T F H) (he : EvD te σ F d) (k : ∀ v F' H', Hold T F' H' → Ex F F' → Ex H H' → Rp F' v d → D.nx (σ.set i (some v)) H') : tAsg te (gName i) D σ H :=
  he H h.ex _ fun v G' H' p r => k v (dat G') H' ⟨dat_ex.trans p.sub, dat_dat, tabs_up h.tab p.old⟩ (dat_mono h.dat p.ext) p.old r.dat
theorem h_asgS {v : V} {i : Nat} (h : Hold T F H) (he : EvD te σ F d) (e : sc d = some v) (k : ∀ H', Hold T F H' → Ex H H' → tz D (σ.set i (some v)) H') : tSeq (tAsg te (gName i)) tz D σ H :=
  (he.ev e) H h.ex _ fun H' x => k H' (h.up x) x
theorem h_when1 (h : Hold T F H) (he : EvT t σ F false) (k : ∀ H', Hold T F H' → Ex H H' → D.nx σ H') : tIfS t tu tNext D σ H :=
  he H h.ex _ fun H' x => k H' (h.up x) x
theorem h_if {b : Bool} (h : Hold T F H) (he : EvT t σ F b) (k1 : b = true → ∀ H', Hold T F H' → Ex H H' → tu { D with nx := tz D } σ H') (k2 : b = false → ∀ H', Hold T F H' → Ex H H' → tw { D with nx := tz D } σ H') : tSeq (tIfS t tu tw) tz D σ H :=
  he H h.ex _ fun H' x => by
    cases b with
    | true => exact k1 rfl H' (h.up x) x
    | false => exact k2 rfl H' (h.up x) x
end
/-! ### the numbers of the script -/
def numS (n m : Int) : Int := (if n % 3 = 0 then n / 4 % 400 else if n % 3 = 1 then n / 4 * 48271 * 48271 % 10 ^ 18 else n / 4 % 10 ^ 6) % m
def rLNumS : List PyData → Out → Prop := fun ds o => ∃ n m : Int, ds = [.int n, .int m] ∧ 0 < m ∧ o = .val (.int (numS n m))
theorem numS_in {n m : Int} (h : 0 < m) : 0 ≤ numS n m ∧ numS n m < m := ⟨Int.emod_nonneg _ (by omega), Int.emod_lt_of_pos _ h⟩
def capK (k : Int) : Int := if 11 < k then 10 ^ 9 else 10 ^ 20
def mostI (L k : Int) : Int := if capK k < 10 ^ 20 / (1 + L) then capK k else 10 ^ 20 / (1 + L)
def numbersS (ns : List Int) : List Int := 0 :: (List.range ns.length).map fun k : Nat => numS (mixI (ns.getD k 0) (21 + (k : Nat))) (mostI ns.length k)
theorem most_in {L : Nat} (h : L ≤ 63) (k : Int) : 0 < mostI L k ∧ mostI L k ≤ 10 ^ 20 / (1 + (L : Int)) := by
  have h1 : (10 : Int) ^ 20 / 64 ≤ 10 ^ 20 / (1 + (L : Int)) := by
    have all : ∀ j : Fin 64, (10 : Int) ^ 20 / 64 ≤ 10 ^ 20 / (1 + ((j : Nat) : Int)) := by decide +kernel
    exact all ⟨L, by omega⟩
  unfold mostI capK
  have h2 : (0 : Int) < 10 ^ 20 / 64 := by decide
  split <;> split <;> omega
theorem numbers_len (ns : List Int) : (numbersS ns).length = ns.length + 1 := by
  unfold numbersS
  rw [List.length_cons, List.length_map, List.length_range]
theorem numbers_in {ns : List Int} (h : ns.length ≤ 63) : ∀ x ∈ numbersS ns, 0 ≤ x ∧ x ≤ 10 ^ 20 / (1 + (ns.length : Int)) := fun x hx => by
  have hB := most_in h 0
  rcases List.mem_cons.mp hx with rfl | hx
  · omega
  · obtain ⟨k, _, rfl⟩ := List.mem_map.mp hx
    have h1 := most_in h (k : Int)
    have h2 := numS_in (n := mixI (ns.getD k 0) (21 + (k : Nat))) h1.1
    omega
theorem numbers_sum {ns : List Int} (h : ns.length ≤ 63) : (numbersS ns).sum < fw 100 := by
  have h1 := sum_le_mul fun x hx => (numbers_in h x hx).2
  rw [numbers_len] at h1
  have h2 : ((ns.length + 1 : Nat) : Int) * (10 ^ 20 / (1 + (ns.length : Int))) ≤ 10 ^ 20 := by
    have := Int.mul_ediv_self_le (x := 10 ^ 20) (k := (1 + (ns.length : Int))) (by omega)
    rw [show ((ns.length + 1 : Nat) : Int) = 1 + (ns.length : Int) by omega]
    exact this
  rw [fw100]
  omega
def rLFold : List PyData → Out → Prop := fun ds o => ∃ ns : List Int, ds = [.list (ns.map rowD)] ∧ 0 < ns.length ∧ ns.length ≤ 64 ∧ (∀ x ∈ ns, 0 ≤ x) ∧ ns.sum < fw 100 ∧ o = .val (rowD ns.sum)
end Lm

set_option maxHeartbeats 2000000
/-! Marks opened; rows moved on. -/
namespace Lm
open PySem PySem.Spec PyProof.Rows L2 Evl
/-! ### opening -/
def opI (k : Int) : List Int := if k = 1 then [0, 0] else [k - 2, k - 1]
def openI (ns : List Int) (k : Int) : List Int := exchI ns [k] (opI k)
/-- the move that takes it back -/
def clI (k : Int) : Mv := if k = 1 then (false, 0) else (true, k - 2)
def rClosing : List PyData → Out → Prop := fun ds o => ∃ k : Int, ds = [.int k] ∧ o = .val (mvD (clI k))
theorem come_cl (k : Int) : comeI (clI k) = [k] := by
  unfold comeI clI
  by_cases h : k = 1
  · rw [if_pos h, h]
    rfl
  · rw [if_neg h]
    show [k - 2 + 2] = [k]
    rw [show k - 2 + 2 = k by omega]
theorem go_cl (k : Int) : [goA (clI k), goB (clI k)] = opI k := by
  unfold goA goB clI opI
  by_cases h : k = 1
  · rw [if_pos h, if_pos h]
    rfl
  · rw [if_neg h, if_neg h]
    show [k - 2, k - 2 + 1] = [k - 2, k - 1]
    rw [show k - 2 + 1 = k - 1 by omega]
theorem top_cl {k : Int} (h0 : 0 < k) : topI (clI k) = k ∧ 0 ≤ (clI k).2 := by
  unfold topI clI
  by_cases h : k = 1
  · rw [if_pos h, h]
    exact ⟨rfl, by decide⟩
  · rw [if_neg h]
    show (k - 2 + 2 = k) ∧ 0 ≤ k - 2
    omega
theorem open_eq (ns : List Int) (k : Int) : openI ns k = srt (ns.erase k ++ opI k) := rfl
theorem open_perm (ns : List Int) (k : Int) : (openI ns k).Perm (opI k ++ ns.erase k) := (srt_perm _).trans List.perm_append_comm
theorem open_mem {ns : List Int} {k y : Int} : y ∈ openI ns k ↔ y ∈ opI k ∨ y ∈ ns.erase k := by
  rw [(open_perm ns k).mem_iff, List.mem_append]
theorem op_in {k y : Int} (h0 : 0 < k) (h : y ∈ opI k) : 0 ≤ y ∧ y < k := by
  unfold opI at h
  split at h
  · simp at h
    omega
  · simp at h
    omega
theorem open_in {ns : List Int} {k : Int} (h : ∀ n ∈ ns, 0 ≤ n ∧ n ≤ 99) (h0 : 0 < k) (hk : k ∈ ns) : ∀ n ∈ openI ns k, 0 ≤ n ∧ n ≤ 99 := fun n hn => by
  rcases open_mem.mp hn with z | z
  · have := op_in h0 z
    have := h k hk
    omega
  · exact h n (List.mem_of_mem_erase z)
theorem op_len (k : Int) : (opI k).length = 2 := by
  unfold opI
  split <;> rfl
theorem open_len {ns : List Int} {k : Int} (hk : k ∈ ns) : (openI ns k).length = ns.length + 1 := by
  rw [(open_perm ns k).length_eq, List.length_append, op_len, List.length_erase_of_mem hk]
  have := List.length_pos_of_mem hk
  omega
theorem all_in {ns : List Int} (h : ∀ n ∈ ns, 0 ≤ n ∧ n ≤ 99) : ns.all inI = true := by
  rw [List.all_eq_true]
  intro x hx
  unfold inI
  rw [decide_eq_true (h x hx).1, decide_eq_true (h x hx).2]
  rfl
theorem srt_pile {ns : List Int} (h : ∀ n ∈ ns, 0 ≤ n ∧ n ≤ 99) (hz : ns.length ≤ 240) : pileI (srt ns) = true := by
  rw [pile_srt, all_in h, decide_eq_true hz]
  rfl
theorem open_pile {ns : List Int} {k : Int} (h : ∀ n ∈ ns, 0 ≤ n ∧ n ≤ 99) (hz : ns.length ≤ 239) (h0 : 0 < k) (hk : k ∈ ns) : pileI (openI ns k) = true := by
  have hl := open_len hk
  rw [open_eq] at hl ⊢
  rw [srt_len] at hl
  refine srt_pile (fun n hn => ?_) (by omega)
  exact open_in h h0 hk n (by rw [open_eq]; exact (srt_perm _).mem_iff.mpr hn)
theorem worth_perm {a b : List Int} (p : a.Perm b) : worthI a = worthI b := by
  unfold worthI
  exact sum_perm (p.map _)
theorem worth_cons (a : Int) (ns : List Int) : worthI (a :: ns) = fw a.toNat + worthI ns := rfl
theorem worth_erase {ns : List Int} {k : Int} (hk : k ∈ ns) : worthI ns = fw k.toNat + worthI (ns.erase k) := by
  rw [worth_perm (List.perm_cons_erase hk), worth_cons]
theorem open_worth {ns : List Int} {k : Int} (h0 : 0 < k) (hk : k ∈ ns) : worthI (openI ns k) = worthI ns := by
  rw [worth_perm (open_perm ns k), worth_app, worth_erase hk]
  congr 1
  unfold opI
  by_cases h : k = 1
  · rw [if_pos h, h]
    rfl
  · rw [if_neg h]
    obtain ⟨j, hj⟩ : ∃ j : Nat, k = ((j + 2 : Nat) : Int) := ⟨(k - 2).toNat, by omega⟩
    subst hj
    show fw (((j + 2 : Nat) : Int) - 2).toNat + (fw (((j + 2 : Nat) : Int) - 1).toNat + 0) = fw (Int.toNat ((j + 2 : Nat) : Int))
    rw [show (((j + 2 : Nat) : Int) - 2).toNat = j by omega, show (((j + 2 : Nat) : Int) - 1).toNat = j + 1 by omega, Int.toNat_natCast, fw_two]
    omega
/-- the join takes it back -/
theorem open_back {ns : List Int} {k : Int} (hr : ns.Pairwise (· ≤ ·)) (hi : ∀ n ∈ ns, 0 ≤ n ∧ n ≤ 99) (h0 : 0 < k) (hk : k ∈ ns) : clI k ∈ movesI (openI ns k) ∧ afterI (openI ns k) (clI k) = ns := by
  have pe : (openI ns k).Perm (goA (clI k) :: goB (clI k) :: ns.erase k) := by
    have := open_perm ns k
    rw [← go_cl] at this
    exact this
  have p1 : ((openI ns k).erase (goA (clI k))).Perm (goB (clI k) :: ns.erase k) := by
    have := pe.erase (goA (clI k))
    rwa [List.erase_cons_head] at this
  have p2 : (leftI (openI ns k) (clI k)).Perm (ns.erase k) := by
    have := p1.erase (goB (clI k))
    rwa [List.erase_cons_head] at this
  refine ⟨(mem_moves (open_in hi h0 hk) _).mpr ⟨pe.mem_iff.mpr List.mem_cons_self, p1.mem_iff.mpr List.mem_cons_self⟩, ?_⟩
  unfold afterI
  rw [come_cl]
  refine (srt_one ?_ hr).symm
  exact (List.perm_cons_erase hk).trans ((List.perm_append_singleton k (ns.erase k)).symm.trans ((p2.symm).append_right [k]))
def openO (C2 : Addr) (ns : List Int) (k : Int) : Out := if 0 < k ∧ k ∈ ns then .val (.tuple ((openI ns k).map .int)) else .err C2
def rOpened (C0 C2 : Addr) : List PyData → Out → Prop := fun ds o => (∃ d k, ds = [d, .int k] ∧ plainD d = true ∧ isPileD d = false ∧ o = .err C0) ∨
  ∃ (ns : List Int) (k : Int), ds = [.tuple (ns.map .int), .int k] ∧ pileI ns = true ∧ o = openO C2 ns k
/-! ### moved on -/
theorem worth_nn : ∀ ns : List Int, 0 ≤ worthI ns
  | [] => Int.le_refl 0
  | n :: ns => by
    have := worth_nn ns
    have := fw_pos n.toNat
    rw [worth_cons]
    omega
theorem last_ge : ∀ {ns : List Int} {a : Int}, (a :: ns).Pairwise (· ≤ ·) → ∀ x ∈ a :: ns, x ≤ ns.getLastD a
  | [], a, _, x, hx => by
    have := List.mem_singleton.mp hx
    rw [this]
    exact Int.le_refl a
  | b :: r, a, h, x, hx => by
    have h1 := List.pairwise_cons.mp h
    rw [List.getLastD_cons]
    rcases List.mem_cons.mp hx with rfl | hx
    · exact Int.le_trans (h1.1 b List.mem_cons_self) (last_ge h1.2 b List.mem_cons_self)
    · exact last_ge h1.2 x hx
theorem last_max {ns : List Int} (h : ns.Pairwise (· ≤ ·)) : ∀ x ∈ ns, x ≤ ns.getLastD 0 := by
  cases ns with
  | nil => exact fun x hx => by cases hx
  | cons a r =>
    intro x hx
    rw [List.getLastD_cons]
    exact last_ge h x hx
/-- n's row may be moved on by p -/
def Fits (n p : Int) : Prop := rowI n = [] ∨ (rowI n).getLastD 0 + p ≤ 99
def movedO (C3 : Addr) (n p : Int) : Out := if rowI n ≠ [] ∧ 99 < (rowI n).getLastD 0 + p then .err C3 else .val (.tuple ((upI p (rowI n)).map .int))
def rMoved (C1 C3 : Addr) : List PyData → Out → Prop := fun ds o => (∃ d p, ds = [d, .int p] ∧ plainD d = true ∧ isRowD d = false ∧ o = .err C1) ∨
  ∃ n p, ds = [rowD n, .int p] ∧ OkN n ∧ o = movedO C3 n p
theorem moved_fits {C3 : Addr} {n p : Int} (h : Fits n p) : movedO C3 n p = .val (.tuple ((upI p (rowI n)).map .int)) := by
  unfold movedO
  rw [if_neg]
  rintro ⟨h1, h2⟩
  rcases h with h | h
  · exact h1 h
  · omega
theorem up_in {n p : Int} (hf : Fits n p) (hp : 0 ≤ p) : ∀ x ∈ upI p (rowI n), 0 ≤ x ∧ x ≤ 99 := fun x hx => by
  obtain ⟨y, hy, rfl⟩ := List.mem_map.mp hx
  have h1 := (row_in y hy).1
  have h2 := last_max (row_rise n) y hy
  rcases hf with h | h
  · rw [h] at hy
    cases hy
  · omega
theorem up_loose {ns : List Int} {p : Int} (h : Loose ns) : Loose (upI p ns) := List.pairwise_map.mpr (h.imp fun z => by omega)
/-- the number of the row moved on -/
def upN (n p : Int) : Int := worthI (upI p (rowI n))
theorem up_row {n p : Int} (ho : OkN n) (hf : Fits n p) (hp : 0 ≤ p) : OkN (upN n p) ∧ PyData.tuple ((upI p (rowI n)).map .int) = rowD (upN n p) ∧ rowI (upN n p) = upI p (rowI n) := by
  obtain ⟨h1, h2⟩ := loose_row (up_loose (p := p) (row_loose ho.2)) (up_in hf hp)
  refine ⟨⟨worth_nn _, h1⟩, ?_, h2⟩
  unfold rowD upN
  rw [h2]
theorem up_len (p : Int) (ns : List Int) : (upI p ns).length = ns.length := List.length_map _
theorem up_up (ns : List Int) : upI 1 (upI 1 ns) = upI 2 ns := by
  unfold upI
  rw [List.map_map]
  refine List.map_congr_left fun x _ => ?_
  show x + 1 + 1 = x + 2
  omega
theorem up_zero (ns : List Int) : upI 0 ns = ns := by
  unfold upI
  exact (List.map_congr_left fun x _ => by show x + 0 = x; omega).trans (List.map_id' ns)
/-- a row below what a mark at m is worth has its marks below m -/
theorem row_below {n : Int} {m : Nat} (ho : OkN n) (h : n < fw m) : ∀ x ∈ rowI n, x < m := fun x hx => by
  have h1 := worth_mem hx
  rw [worth_row ho] at h1
  have h0 := (row_in x hx).1
  by_cases z : x < m
  · exact z
  · have := fw_mono (show m ≤ x.toNat by omega)
    omega
theorem fits_below {n p : Int} {m : Nat} (ho : OkN n) (h : n < fw m) (hp : (m : Int) + p ≤ 100) : Fits n p := by
  by_cases z : rowI n = []
  · exact .inl z
  · refine .inr ?_
    have := row_below ho h _ (lastD_mem z)
    omega
section
variable {K : PySem.W.Frag} {σ : L2.St} {G H : Hp} {ta tb te : TE} {tr : TA} {ds : List PyData} {o : Out} {E : XK} {d dv : PyData} {v : V}
theorem et_truT (h : EvD ta σ G (.tuple ds)) : EvT (tTru K ta) σ G (!ds.isEmpty) := fun H x Q q => h H x _ fun v G1 H1 p r => by
  cases r with
  | @tup a xs _ e b =>
    have k : (!xs.isEmpty) = !ds.isEmpty := by
      have := b.len
      cases xs <;> cases ds <;> simp_all
    exact ⟨_, .inr (.inl ⟨xs, .inl (rd_up p.sub e), rfl⟩), by rw [k]; exact q H1 p.old⟩
/-- a call with its last argument left out: a number -/
theorem ex_callV {r : List PyData → Out → Prop} (h : EdA tr σ G ds) (e : sc dv = some v) (hr : r (ds ++ [dv]) o) : EvX (tCall (spO r) [v] E tr) E σ G o := fun H x Q q =>
  h H x _ fun vs G1 H1 p rs => ⟨G1, _, o, p.sub, rs.snoc (.cons (Rp.ofSc e) .nil), hr, q.go p⟩
theorem ed_callV {r : List PyData → Out → Prop} (h : EdA tr σ G ds) (e : sc dv = some v) (hr : r (ds ++ [dv]) (.val d)) : EvD (tCall (spO r) [v] E tr) σ G d := EvX.toD (E := E) (ex_callV h e hr)
theorem ed_notInI {n : Int} {ns : List Int} (h : EvD ta σ G (.int n)) (k : EvD tb σ G (.tuple (ns.map .int))) : EvD (tOp (rIn K true) ta tb) σ G (.bool (!decide (n ∈ ns))) := ed_notInIntT h k
end
section
variable {P : Program} {w : World} {K : PySem.W.Frag} {mg : Str → Option Value} {base : Heap} {R : ErrTxt K mg} {k : Nat} {σ : L2.St} {G : Hp} {tf tl : TE} {f : Addr} {rel : List PyData → Out → Prop} {ds : List PyData} {o : Out} {d dv : PyData} {v : V}
/-- .. tried, one thing handed in -/
theorem ed_triedV {n : Nat} (hf : EvD tf σ G (opq f)) (hl : EvD tl σ G (.list ds)) (hz : ds.length = 1 ∨ ds.length = 2) (hn : ds.length + 1 = n) (e : sc dv = some v) (F : Fr_ P w K mg base k f (dflV n v (spO rel))) (hk : PySem.W.keepIn K (.ref f) = true) (hr : rel (ds ++ [dv]) o) (ht : Tried R o d) :
    EvD (tCall (spT P w base R k) [] E0 (tCons tf (tCons tl tNil))) σ G d := fun H x Q q =>
  hf H x _ fun v1 G1 H1 p r => (hl.mono p.ext) H1 p.sub _ fun u G2 H2 p2 r2 => by
    cases r
    cases r2 with
    | @lst a xs _ e2 b =>
      have pz := p.trans p2
      refine ⟨f, _, a, xs, rfl, pz.sub _ _ e2, by rw [b.len]; exact hz, F, .inl hk, fun H3 x3 => .inl ⟨by rw [b.len]; exact hn, G2, _, o, pz.sub.trans x3, b.snoc (.cons (Rp.ofSc e) .nil), hr, ?_⟩⟩
      cases o with
      | val y =>
        have e2 : d = y := ht
        subst e2
        exact fun v G' H' p4 r4 H5 x5 => q v G' H5 (((pz.on x3).trans p4).on x5) r4
      | err C =>
        obtain ⟨i, hi, hC, rfl⟩ := ht
        exact fun H' x4 => ⟨i, hi, by rw [hC], rfl, fun H5 x5 => q _ G2 H5 (pz.on (x3.trans (x4.trans x5))) (.str _)⟩
/-- .. both handed in -/
theorem ed_triedV2 {n : Nat} (hf : EvD tf σ G (opq f)) (hl : EvD tl σ G (.list ds)) (hz : ds.length = 1 ∨ ds.length = 2) (hn : ds.length = n) (F : Fr_ P w K mg base k f (dflV n v (spO rel))) (hk : PySem.W.keepIn K (.ref f) = true) (hr : rel ds o) (ht : Tried R o d) :
    EvD (tCall (spT P w base R k) [] E0 (tCons tf (tCons tl tNil))) σ G d := fun H x Q q =>
  hf H x _ fun v1 G1 H1 p r => (hl.mono p.ext) H1 p.sub _ fun u G2 H2 p2 r2 => by
    cases r
    cases r2 with
    | @lst a xs _ e2 b =>
      have pz := p.trans p2
      refine ⟨f, _, a, xs, rfl, pz.sub _ _ e2, by rw [b.len]; exact hz, F, .inl hk, fun H3 x3 => .inr ⟨by rw [b.len]; exact hn, G2, _, o, pz.sub.trans x3, b, hr, ?_⟩⟩
      cases o with
      | val y =>
        have e2 : d = y := ht
        subst e2
        exact fun v G' H' p4 r4 H5 x5 => q v G' H5 (((pz.on x3).trans p4).on x5) r4
      | err C =>
        obtain ⟨i, hi, hC, rfl⟩ := ht
        exact fun H' x4 => ⟨i, hi, by rw [hC], rfl, fun H5 x5 => q _ G2 H5 (pz.on (x3.trans (x4.trans x5))) (.str _)⟩
end
/-! ### what the law of moved rows asks of its own defs -/
def rLMovedK : List PyData → Out → Prop := fun ds o => ∃ n p, ds = [rowD n, .int p] ∧ OkN n ∧ 0 ≤ p ∧ p ≤ 1000 ∧ o = .val (.bool true)
def rLShare : List PyData → Out → Prop := fun ds o => ∃ n, ds = [.int n] ∧ OkN n ∧ n < fw 99 ∧ o = .val (.bool true)
def rLOpened : List PyData → Out → Prop := fun ds o => ∃ (ns : List Int) (k : Int), ds = [.tuple (ns.map .int), .int k] ∧ pileI ns = true ∧ ns.length ≤ 100 ∧ 0 ≤ k ∧ k ≤ 99 ∧ o = .val (.bool true)
theorem open_test {ns : List Int} {k : Int} (hp : pileI ns = true) : (!isPlaceD (.int k) || (decide (k = 0) || !decide (k ∈ ns))) = !decide (0 < k ∧ k ∈ ns) := by
  by_cases hk : k ∈ ns
  · have h := pile_in hp k hk
    have e : isPlaceD (.int k) = true := by
      show (decide (0 ≤ k) && decide (k ≤ 99)) = true
      rw [decide_eq_true h.1, decide_eq_true h.2]
      rfl
    rw [e, decide_eq_true hk]
    by_cases z : k = 0
    · rw [decide_eq_true z, decide_eq_false (by omega)]
      rfl
    · rw [decide_eq_false z, decide_eq_true ⟨by omega, hk⟩]
      rfl
  · rw [decide_eq_false hk, decide_eq_false (fun z : 0 < k ∧ k ∈ ns => hk z.2), Bool.not_false, Bool.or_true, Bool.or_true]
/-- what the law of opened marks makes of it -/
theorem open_due (ns : List Int) {k : Int} (h : 0 < k) : (ns.erase k ++ [k - 1, if k - 2 > 0 then k - 2 else 0]).Perm (ns.erase k ++ opI k) := by
  refine List.Perm.append_left _ ?_
  unfold opI
  by_cases z : k = 1
  · rw [if_pos z, z]
    exact .refl _
  · rw [if_neg z]
    by_cases y : k - 2 > 0
    · rw [if_pos y]
      exact .swap _ _ _
    · rw [if_neg y, show (0 : Int) = k - 2 by omega]
      exact .swap _ _ _
def oneI (n : Int) : Int := n * 48271 * 48271 % (if n % 4 = 0 then fw 100 else if n % 4 = 2 then 1000 else fw 99)
theorem one_ok (n : Int) : OkN (oneI n) := by
  unfold oneI
  have h1 : 0 < (if n % 4 = 0 then fw 100 else if n % 4 = 2 then 1000 else fw 99) ∧ (if n % 4 = 0 then fw 100 else if n % 4 = 2 then 1000 else fw 99) ≤ fw 100 := by
    have a := fw_pos 100
    have b := fw_pos 99
    have c : fw 99 ≤ fw 100 := fw_mono (by decide)
    have d := fw100
    split
    · omega
    · split <;> omega
  exact ⟨Int.emod_nonneg _ (by omega), Int.lt_of_lt_of_le (Int.emod_lt_of_pos _ h1.1) h1.2⟩
theorem wide70 {i j : Int} (h0 : 0 ≤ i) (h1 : i < 2 ^ 70) (k0 : 0 ≤ j) (k1 : j < 2 ^ 70) : CMulW i j := wide_mul (a := 70) (b := 70) (by omega) (by omega) (by decide) (by decide) (by decide)
end Lm

set_option maxHeartbeats 4000000
namespace K10
open PySem PySem.Spec PyProof.Rows L2 Evl Lm RT
/-- a statement of the program's top -/
def topS (i : Nat) : Stmt := PySem.Challenge.pw_loosemarks_k10_moved.main.body.getD i (.Pass ⟨0, 0, 0, 0⟩)
structure Txt (K : PySem.W.Frag) (mg : Str → Option Value) where
  b_ValueError : mg "ValueError" = none
  b_all : mg "all" = none
  b_bool : mg "bool" = none
  b_enumerate : mg "enumerate" = none
  b_int : mg "int" = none
  b_isinstance : mg "isinstance" = none
  b_len : mg "len" = none
  b_list : mg "list" = none
  b_max : mg "max" = none
  b_range : mg "range" = none
  b_reversed : mg "reversed" = none
  b_sorted : mg "sorted" = none
  b_str : mg "str" = none
  b_sum : mg "sum" = none
  b_tuple : mg "tuple" = none
  b_type : mg "type" = none
  b_zip : mg "zip" = none
  c_LAST_PLACE : ∃ t, mg "LAST_PLACE" = some (.int 99 t)
  c_MOST_MARKS : ∃ t, mg "MOST_MARKS" = some (.int 240 t)
  c_JOIN : ∃ t, mg "JOIN" = some (.str "join" t)
  c_PART : ∃ t, mg "PART" = some (.str "part" t)
  er : ErrTxt K mg
  f_is_place : Addr
  a_is_place : At K mg "is_place" ["thing"] (topS 11) f_is_place
  f_next_pairs : Addr
  a_next_pairs : At K mg "next_pairs" ["pile"] (topS 12) f_next_pairs
  f_is_pile : Addr
  a_is_pile : At K mg "is_pile" ["thing"] (topS 13) f_is_pile
  f_is_row : Addr
  a_is_row : At K mg "is_row" ["thing"] (topS 14) f_is_row
  f_need_pile : Addr
  a_need_pile : At K mg "need_pile" ["thing"] (topS 15) f_need_pile
  f_need_row : Addr
  a_need_row : At K mg "need_row" ["thing"] (topS 16) f_need_row
  f_moves_there : Addr
  a_moves_there : At K mg "moves_there" ["pile"] (topS 20) f_moves_there
  f_is_move : Addr
  a_is_move : At K mg "is_move" ["thing"] (topS 21) f_is_move
  f_going : Addr
  a_going : At K mg "going" ["move"] (topS 22) f_going
  f_coming : Addr
  a_coming : At K mg "coming" ["move"] (topS 23) f_coming
  f_fits : Addr
  a_fits : At K mg "fits" ["move"] (topS 24) f_fits
  f_exchanged : Addr
  a_exchanged : At K mg "exchanged" ["pile", "gone", "come"] (topS 25) f_exchanged
  f_behind : Addr
  a_behind : At K mg "behind" ["pile", "move"] (topS 26) f_behind
  f_done : Addr
  a_done : At K mg "done" ["pile", "move"] (topS 27) f_done
  f_closing : Addr
  a_closing : At K mg "closing" ["place"] (topS 29) f_closing
  f_opened : Addr
  a_opened : At K mg "opened" ["pile", "k"] (topS 30) f_opened
  f__law_mix : Addr
  a__law_mix : At K mg "_law_mix" ["_law_cell", "_law_k"] (topS 33) f__law_mix
  f__law_worths : Addr
  a__law_worths : At K mg "_law_worths" [] (topS 34) f__law_worths
  f__law_row : Addr
  a__law_row : At K mg "_law_row" ["_law_number"] (topS 35) f__law_row
  f__law_worth : Addr
  a__law_worth : At K mg "_law_worth" ["_law_pile_here"] (topS 36) f__law_worth
  f__law_place : Addr
  a__law_place : At K mg "_law_place" ["_law_number"] (topS 37) f__law_place
  f__law_pile : Addr
  a__law_pile : At K mg "_law_pile" ["_law_script", "_law_first", "_law_most"] (topS 38) f__law_pile
  f__law_word : Addr
  a__law_word : At K mg "_law_word" ["_law_e"] (topS 39) f__law_word
  f__law_tried : Addr
  a__law_tried : At K mg "_law_tried" ["_law_deed", "_law_things"] (topS 40) f__law_tried
  f__law_same : Addr
  a__law_same : At K mg "_law_same" ["_law_found", "_law_due"] (topS 41) f__law_same
  f__law_moved : Addr
  a__law_moved : At K mg "_law_moved" ["_law_row_here", "_law_many"] (topS 42) f__law_moved
  f__law_is_share : Addr
  a__law_is_share : At K mg "_law_is_share" ["_law_number"] (topS 43) f__law_is_share
  f__law_opened : Addr
  a__law_opened : At K mg "_law_opened" ["_law_pile_here", "_law_k"] (topS 44) f__law_opened
  f_law : Addr
  a_law : At K mg "law" ["_law_script"] (topS 45) f_law
  f_moved : Addr
  a_moved : AtV K mg "moved" ["row", "places"] (topS 31) f_moved (.int 1)
section
variable {P : Program} {w : World} {K : PySem.W.Frag} {mg : Str → Option Value} {base : Heap} (T : Txt K mg)
include T
theorem has_is_place : Has P w K mg base "is_place" ["thing"] 1 (spO rPlace) := by
  have nd : (["thing"] : List Str).Nodup := by decide +kernel
  refine has_of (N := ["thing"]) T.a_is_place ⟨rfl, rfl, rfl, by decide +kernel, rfl, by decide +kernel, by decide +kernel⟩ (fun _ _ ⟨_, e, _⟩ => by rw [e]; rfl) fun cdv A outer s H vs Q E hr => ?_
  refine ⟨_, (pss_one (ps_ret (pe_and (pe_cmpR LmType.op_eqTy (pe_callTy LmType.call_type (by rfl) T.b_type (by decide +kernel) (pa_cons (pv 0) pa_nil)) (pe_bltn (v := .ty "int") (u := .type "int") (by rfl) T.b_int (by decide +kernel) rfl) (nomark _)) (pe_one (pe_chain op_le op_le pe_int (pv 0) (pe_cst (by rfl) T.c_LAST_PLACE)))))), fun G ds o e rp h q => ?_⟩
  obtain ⟨d, rfl, hd, rfl⟩ := h
  obtain ⟨v, rfl, r⟩ := one rp
  obtain ⟨S, hS⟩ := Option.isSome_iff_exists.mp hd
  refine d_retD (Part.refl e) ?_ q
  refine (ed_andV (b := isPlaceD d) (ed_tyEq (ev_type (ed_var rfl r) hS) ev_c (tyD_known hS) known_int) fun hi => ?_).is ?_
  · have hi2 := of_decide_eq_true hi
    rw [hi2] at hS
    obtain ⟨i, rfl⟩ := tyD_int hS
    exact ed_chain (i := 0) (j := i) (k := 99) ed_int (ed_var rfl r) ed_int
  · by_cases n : S = "int"
    · rw [decide_eq_true n, Bool.true_and]
    · rw [decide_eq_false n, Bool.false_and, tyD_not hS n]
theorem has_next_pairs : Has P w K mg base "next_pairs" ["pile"] 1 (spO rNext) := by
  have nd : (["pile"] : List Str).Nodup := by decide +kernel
  refine has_of (N := ["pile"]) T.a_next_pairs ⟨rfl, rfl, rfl, by decide +kernel, rfl, by decide +kernel, by decide +kernel⟩ (fun _ _ ⟨_, e, _⟩ => by rw [e]; rfl) fun cdv A outer s H vs Q E hr => ?_
  refine ⟨_, (pss_one (ps_ret (LmZip.pe_listZip rfl (by rfl) T.b_list (by rfl) T.b_zip (pa_cons (pv 0) (pa_cons (pe_slice sl_tupA (pv 0) (po_some pe_int) po_none) pa_nil))))), fun G ds o e rp h q => ?_⟩
  obtain ⟨l, rfl, rfl⟩ := h
  obtain ⟨v, rfl, r⟩ := one rp
  refine d_retD (Part.refl e) ?_ q
  refine (ed_listZip (ed_var rfl r) (ed_slT (ed_var rfl r) (eo_some (ed_int.ev rfl)) eo_none)).is ?_
  rw [cut1D]
theorem has_is_pile : Has P w K mg base "is_pile" ["thing"] 2 (spO rIsPile) := by
  have nd : (["thing", "entry", "low", "high"] : List Str).Nodup := by decide +kernel
  refine has_of (N := ["thing", "entry", "low", "high"]) T.a_is_pile ⟨rfl, rfl, rfl, by decide +kernel, rfl, by decide +kernel, by decide +kernel⟩ (fun _ _ ⟨_, e, _⟩ => by rw [e]; rfl) fun cdv A outer s H vs Q E hr => ?_
  refine ⟨_, (pss_cons (ps_if (PW.pt (pw_or (pt_cmpR LmType.op_neTy (pe_callTy LmType.call_type (by rfl) T.b_type (by decide +kernel) (pa_cons (pv 0) pa_nil)) (pe_bltn (v := .ty "tuple") (u := .type "tuple") (by rfl) T.b_tuple (by decide +kernel) rfl) (nomark _)) (pw_or1 (pt_cmpR op_gt (pe_callB call_len_seq (by rfl) T.b_len (by decide +kernel) (pa_cons (pv 0) pa_nil)) (pe_cst (by rfl) T.c_MOST_MARKS) (nomark _))))) (pss_one (ps_ret pe_bl)) pss_nil)
    (pss_cons (ps_if (pt_not (pt_val (pe_callB (cr_all rfl) (by rfl) T.b_all (by decide +kernel) (pa_cons (pe_lc (own := [("entry", 1)]) (g := (gName 1)) (tt := tYes) (te := (tCall (spO rPlace) [] E0 (tCons (tVar 1) tNil))) rfl nd (pi_tup (pv 0)) (blkOk_by (own := [("entry", 1)]) (N := ["thing", "entry", "low", "high"]) (sc := defScope (topS 13)) (by decide +kernel)) (fun _ _ _ _ _ => (pg_name (i := 1) nd rfl (Or.inl rfl) (Or.inr rfl))) (fun _ _ _ _ _ => pts_nil) (fun _ _ _ _ _ => (pe_callH (has_is_place (P := P) (w := w) (base := base) T) (hr.mono (by decide)) (by rfl) passL (pa_cons (pv 1) pa_nil)))) pa_nil)))) (pss_one (ps_ret pe_bl)) pss_nil)
    (pss_one (ps_ret (pe_callB (cr_all rfl) (by rfl) T.b_all (by decide +kernel) (pa_cons (pe_lc (own := [("low", 2), ("high", 3)]) (g := (gTup K 2 (gCons (gName 2) (gCons (gName 3) gNil)))) (tt := tYes) (te := (tOp (rI0 fun i j => .bl (decide (i ≤ j))) (tVar 2) (tVar 3))) rfl nd (pi_list (pe_callH (has_next_pairs (P := P) (w := w) (base := base) T) (hr.mono (by decide)) (by rfl) passL (pa_cons (pv 0) pa_nil))) (blkOk_by (own := [("low", 2), ("high", 3)]) (N := ["thing", "entry", "low", "high"]) (sc := defScope (topS 13)) (by decide +kernel)) (fun _ _ _ _ _ => (pg_tup rfl (pgs_cons (pg_name (i := 2) nd rfl (Or.inl rfl) (Or.inr rfl)) (pgs_cons (pg_name (i := 3) nd rfl (Or.inl rfl) (Or.inr rfl)) pgs_nil)))) (fun _ _ _ _ _ => pts_nil) (fun _ _ _ _ _ => (pe_cmpR op_le (pv 2) (pv 3) (nomark _)))) pa_nil)))))), fun G ds o e rp h q => ?_⟩
  obtain ⟨d, rfl, hd, rfl⟩ := h
  obtain ⟨v, rfl, r⟩ := one rp
  obtain ⟨S, hS⟩ := plain_ty hd
  have c1 := ed_tyNe (ev_type (ed_var (σ := start ["thing", "entry", "low", "high"] [v]) (i := 0) rfl r) hS) (ev_c (v := .ty "tuple")) (tyD_known hS) known_tuple
  by_cases n : S = "tuple"
  · subst n
    obtain ⟨l, rfl⟩ := tyD_tuple hS
    refine d_when (Part.refl e) (et_or (b := decide (240 < (l.length : Int))) (et_of' c1) fun _ => et_of' (ed_i0 (ed_lenT (ed_var rfl r)) ed_int rfl)) (fun hb H1 P1 _ => ?_) fun hb H1 P1 _ => ?_
    · have h1 : 240 < l.length := by
        have h0 : (240 : Int) < l.length := by simpa using hb
        omega
      refine d_retD (E := E) P1 (ed_bl (b := false)) ?_
      have z : isPileD (.tuple l) = false := by
        rw [isPile_tuple, decide_eq_false (by omega), Bool.false_and]
      rw [z] at q
      exact q
    · have h1 : l.length ≤ 240 := by
        have h0 : (l.length : Int) ≤ 240 := by simpa using hb
        omega
      have cA : EvD (tCB (rAll K) (tCons (tLc (iTup K (tVar 0)) (gName 1) tYes (tCall (spO rPlace) [] E0 (tCons (tVar 1) tNil)) [1]) tNil)) (start ["thing", "entry", "low", "high"] [v]) G (.bool (l.all isPlaceD)) := by
        refine (ed_all (bs := l.map isPlaceD) ((ed_lc (fun _ => true) (fun d => .bool (isPlaceD d)) (ei_tup (ed_var rfl r)) (by omega) (turn_name (fun _ => rfl) (fun _ _ _ _ _ _ _ => et_yes) fun i d x G' e' hi r' _ => ?_)).is ?_)).is ?_
        · exact ed_call (ea_cons (ed_var rfl r') ea_nil) ⟨d, rfl, List.all_eq_true.mp hd d (List.mem_of_getElem? hi), rfl⟩
        · rw [lcD_all, List.map_map]
          rfl
        · rw [List.all_map]
          rfl
      refine d_when P1 (et_not (et_of cA)) (fun hb2 H2 P2 _ => ?_) fun hb2 H2 P2 _ => ?_
      · refine d_retD (E := E) P2 (ed_bl (b := false)) ?_
        have h2 : l.all isPlaceD = false := by simpa using hb2
        have z : isPileD (.tuple l) = false := by
          rw [isPile_tuple, h2, Bool.false_and, Bool.and_false]
        rw [z] at q
        exact q
      · have h2 : l.all isPlaceD = true := by simpa using hb2
        refine d_retD (E := E) P2 ?_ q
        have el := places_ints h2
        refine (ed_allPairs (fun a b => decide (a ≤ b)) (qs := nx (l.map toI)) ((ed_call (ea_cons (ed_var rfl r) ea_nil) ⟨l, rfl, rfl⟩).is ?_) ?_ (fun _ _ => rfl) fun a b G' => ed_i0 (ed_var rfl (.int a)) (ed_var rfl (.int b)) rfl).is ?_
        · rw [← nx_pairs, ← el]
        · unfold nx
          rw [List.length_zip, List.length_map]
          omega
        · rw [isPile_tuple, h2, decide_eq_true h1]
          rfl
  · refine d_when (Part.refl e) (et_or (b := false) (et_of' c1) fun hb => ?_) (fun _ H1 P1 _ => ?_) fun hb H1 P1 _ => ?_
    · rw [decide_eq_false n] at hb
      cases hb
    · refine d_retD (E := E) P1 (ed_bl (b := false)) ?_
      rw [tyD_notT hS n] at q
      exact q
    · rw [decide_eq_false n] at hb
      cases hb
theorem has_is_row : Has P w K mg base "is_row" ["thing"] 3 (spO rIsRow) := by
  have nd : (["thing", "low", "high"] : List Str).Nodup := by decide +kernel
  refine has_of (N := ["thing", "low", "high"]) T.a_is_row ⟨rfl, rfl, rfl, by decide +kernel, rfl, by decide +kernel, by decide +kernel⟩ (fun _ _ ⟨_, e, _⟩ => by rw [e]; rfl) fun cdv A outer s H vs Q E hr => ?_
  refine ⟨_, (pss_one (ps_ret (pe_and (pe_callH (has_is_pile (P := P) (w := w) (base := base) T) (hr.mono (by decide)) (by rfl) passL (pa_cons (pv 0) pa_nil)) (pe_one (pe_callB (cr_all rfl) (by rfl) T.b_all (by decide +kernel) (pa_cons (pe_lc (own := [("low", 1), ("high", 2)]) (g := (gTup K 2 (gCons (gName 1) (gCons (gName 2) gNil)))) (tt := tYes) (te := (tOp (rI0 fun i j => .bl (decide (j < i))) (tOp (rI0 fun i j => .int (i - j)) (tVar 2) (tVar 1)) (tC (.int 1)))) rfl nd (pi_list (pe_callH (has_next_pairs (P := P) (w := w) (base := base) T) (hr.mono (by decide)) (by rfl) passL (pa_cons (pv 0) pa_nil))) (blkOk_by (own := [("low", 1), ("high", 2)]) (N := ["thing", "low", "high"]) (sc := defScope (topS 14)) (by decide +kernel)) (fun _ _ _ _ _ => (pg_tup rfl (pgs_cons (pg_name (i := 1) nd rfl (Or.inl rfl) (Or.inr rfl)) (pgs_cons (pg_name (i := 2) nd rfl (Or.inl rfl) (Or.inr rfl)) pgs_nil)))) (fun _ _ _ _ _ => pts_nil) (fun _ _ _ _ _ => (pe_cmpR op_gt (pe_op op_sub (pv 2) (pv 1)) pe_int (nomark _)))) pa_nil)))))), fun G ds o e rp h q => ?_⟩
  obtain ⟨d, rfl, hd, rfl⟩ := h
  obtain ⟨v, rfl, r⟩ := one rp
  refine d_retD (Part.refl e) ?_ q
  refine ed_andV (ed_call (ea_cons (ed_var rfl r) ea_nil) ⟨d, rfl, hd, rfl⟩) fun hp => ?_
  cases d with
  | tuple l =>
    rw [isPile_tuple, Bool.and_eq_true, Bool.and_eq_true] at hp
    have el := places_ints hp.2.1
    have h1 := of_decide_eq_true hp.1
    refine ed_allPairs (fun a b => decide (1 < b - a)) (qs := nx (l.map toI)) ((ed_call (ea_cons (ed_var rfl r) ea_nil) ⟨l, rfl, rfl⟩).is ?_) ?_ (fun _ _ => rfl) fun a b G' => ed_i0 (ed_i0 (ed_var rfl (.int b)) (ed_var rfl (.int a)) rfl) ed_int rfl
    · rw [← nx_pairs, ← el]
    · unfold nx
      rw [List.length_zip, List.length_map]
      omega
  | _ => cases hp
theorem has_need_pile : Has P w K mg base "need_pile" ["thing"] 3 (spO (rNeedP (T.er.c 0))) := by
  have nd : (["thing"] : List Str).Nodup := by decide +kernel
  refine has_of (N := ["thing"]) T.a_need_pile ⟨rfl, rfl, rfl, by decide +kernel, rfl, by decide +kernel, by decide +kernel⟩ (fun _ _ ⟨_, e, _⟩ => by rw [e]; rfl) fun cdv A outer s H vs Q E hr => ?_
  refine ⟨_, (pss_one (ps_if (pt_not (pt_val (pe_callH (has_is_pile (P := P) (w := w) (base := base) T) (hr.mono (by decide)) (by rfl) passL (pa_cons (pv 0) pa_nil)))) (pss_one (ps_raise rfl (takes_of rfl rfl rfl rfl) (pmk_own PySem.F.excBase_ValueError (T.er.x 0 (by decide)) T.er.g0 (T.er.k 0 (by decide)) (raises_own (T.er.e 0 (by decide)) (T.er.t 0 (by decide))) rfl))) pss_nil)), fun G ds o e rp h q => ?_⟩
  obtain ⟨d, rfl, hd, rfl⟩ := h
  obtain ⟨v, rfl, r⟩ := one rp
  refine d_if1 (Part.refl e) (et_not (et_of (ed_call (ea_cons (ed_var rfl r) ea_nil) ⟨d, rfl, hd, rfl⟩))) (fun hb H1 P1 x => ?_) fun hb H1 P1 x => ?_
  · have hb2 : isPileD d = false := by simpa using hb
    rw [hb2] at q
    exact q H1 x
  · have hb2 : isPileD d = true := by simpa using hb
    rw [hb2] at q
    exact q .non _ H1 P1 .non
theorem has_need_row : Has P w K mg base "need_row" ["thing"] 4 (spO (rNeedR (T.er.c 1))) := by
  have nd : (["thing"] : List Str).Nodup := by decide +kernel
  refine has_of (N := ["thing"]) T.a_need_row ⟨rfl, rfl, rfl, by decide +kernel, rfl, by decide +kernel, by decide +kernel⟩ (fun _ _ ⟨_, e, _⟩ => by rw [e]; rfl) fun cdv A outer s H vs Q E hr => ?_
  refine ⟨_, (pss_one (ps_if (pt_not (pt_val (pe_callH (has_is_row (P := P) (w := w) (base := base) T) (hr.mono (by decide)) (by rfl) passL (pa_cons (pv 0) pa_nil)))) (pss_one (ps_raise rfl (takes_of rfl rfl rfl rfl) (pmk_own PySem.F.excBase_ValueError (T.er.x 1 (by decide)) T.er.g1 (T.er.k 1 (by decide)) (raises_own (T.er.e 1 (by decide)) (T.er.t 1 (by decide))) rfl))) pss_nil)), fun G ds o e rp h q => ?_⟩
  obtain ⟨d, rfl, hd, rfl⟩ := h
  obtain ⟨v, rfl, r⟩ := one rp
  refine d_if1 (Part.refl e) (et_not (et_of (ed_call (ea_cons (ed_var rfl r) ea_nil) ⟨d, rfl, hd, rfl⟩))) (fun hb H1 P1 x => ?_) fun hb H1 P1 x => ?_
  · have hb2 : isRowD d = false := by simpa using hb
    rw [hb2] at q
    exact q H1 x
  · have hb2 : isRowD d = true := by simpa using hb
    rw [hb2] at q
    exact q .non _ H1 P1 .non
theorem has_moves_thereN : Has P w K mg base "moves_there" ["pile"] 2 (spN rMovesT) := by
  have nd : (["pile", "pairs", "joins", "doubled", "low", "high", "place"] : List Str).Nodup := by decide +kernel
  refine has_ofN (N := ["pile", "pairs", "joins", "doubled", "low", "high", "place"]) T.a_moves_there ⟨rfl, rfl, rfl, by decide +kernel, rfl, by decide +kernel, by decide +kernel⟩ (fun _ _ ⟨_, e, _⟩ => by rw [e]; rfl) fun cdv A outer s H vs Q E hr => ?_
  refine ⟨_, (pss_cons (ps_set (i := 1) nd rfl (.inl rfl) (pe_callH (has_next_pairs (P := P) (w := w) (base := base) T) (hr.mono (by decide)) (by rfl) passL (pa_cons (pv 0) pa_nil)))
    (pss_cons (ps_setLc (i := 2) (own := [("low", 4), ("high", 5)]) (g := (gTup K 2 (gCons (gName 4) (gCons (gName 5) gNil)))) (tt := (tTest (tOp (rEqD K) (tVar 5) (tOp (rI0 fun i j => .int (i + j)) (tVar 4) (tC (.int 1)))))) (te := (tTup (tCons (tC (.str "join")) (tCons (tVar 4) tNil)))) rfl nd rfl rfl (sw_true rfl rfl rfl (by decide +kernel)) (pi_list (pv 1)) (blkOk_by (own := [("low", 4), ("high", 5)]) (N := ["pile", "pairs", "joins", "doubled", "low", "high", "place"]) (sc := defScope (topS 20)) (by decide +kernel)) (fun _ _ _ _ _ => (pg_tup rfl (pgs_cons (pg_name (i := 4) nd rfl (Or.inl rfl) (Or.inr rfl)) (pgs_cons (pg_name (i := 5) nd rfl (Or.inl rfl) (Or.inr rfl)) pgs_nil)))) (fun _ _ _ _ _ => (pts_one (pt_cmpR (op_eqD hr.units) (pv 5) (pe_op op_add (pv 4) pe_int) (nomark _)))) (fun _ _ _ _ _ => (pe_tup (pa_cons (pe_csts (by rfl) T.c_JOIN) (pa_cons (pv 4) pa_nil)))))
    (pss_cons (ps_set (i := 3) nd rfl (.inl rfl) (pe_callB (cr_sortedSet rfl) (by rfl) T.b_sorted (by decide +kernel) (pa_cons (LmSet.pe_setI (own := [("low", 4), ("high", 5)]) (g := (gTup K 2 (gCons (gName 4) (gCons (gName 5) gNil)))) (tt := (tTest (tOp (rEqD K) (tVar 4) (tVar 5)))) (te := (tVar 4)) rfl nd (pi_list (pv 1)) (blkOk_by (own := [("low", 4), ("high", 5)]) (N := ["pile", "pairs", "joins", "doubled", "low", "high", "place"]) (sc := defScope (topS 20)) (by decide +kernel)) (fun _ _ _ _ _ => (pg_tup rfl (pgs_cons (pg_name (i := 4) nd rfl (Or.inl rfl) (Or.inr rfl)) (pgs_cons (pg_name (i := 5) nd rfl (Or.inl rfl) (Or.inr rfl)) pgs_nil)))) (fun _ _ _ _ _ => (pts_one (pt_cmpR (op_eqD hr.units) (pv 4) (pv 5) (nomark _)))) (fun _ _ _ _ _ => (pv 4))) pa_nil)))
    (pss_one (ps_ret (pe_op op_cat (pv 2) (pe_lc (own := [("place", 6)]) (g := (gName 6)) (tt := tYes) (te := (tTup (tCons (tC (.str "part")) (tCons (tVar 6) tNil)))) rfl nd (pi_list (pv 3)) (blkOk_by (own := [("place", 6)]) (N := ["pile", "pairs", "joins", "doubled", "low", "high", "place"]) (sc := defScope (topS 20)) (by decide +kernel)) (fun _ _ _ _ _ => (pg_name (i := 6) nd rfl (Or.inl rfl) (Or.inr rfl))) (fun _ _ _ _ _ => pts_nil) (fun _ _ _ _ _ => (pe_tup (pa_cons (pe_csts (by rfl) T.c_PART) (pa_cons (pv 6) pa_nil))))))))))), fun G ds o e rp h q => ?_⟩
  obtain ⟨ns, rfl, hp, hz, rfl⟩ := h
  obtain ⟨v, rfl, r⟩ := one rp
  have rise := pile_rise hp
  have hin := pile_in hp
  have nl : (nx ns).length ≤ 125 := by rw [nx_len]; omega
  refine d_asg (Part.refl e) (d := .list ((nx ns).map Lm.prD)) ((ed_call (ea_cons (ed_var rfl r) ea_nil) ⟨_, rfl, rfl⟩).is (by rw [nx_pairs]; rfl)) fun v1 G2 H2 P2 x2 y2 r2 => ?_
  have pr : ∀ d ∈ (nx ns).map Lm.prD, ∃ a b, d = .tuple [a, b] := fun d hd => by
    obtain ⟨p, _, rfl⟩ := List.mem_map.mp hd
    exact ⟨_, _, rfl⟩
  have at_ : ∀ {i : Nat} {a b : PyData}, ((nx ns).map Lm.prD)[i]? = some (.tuple [a, b]) → ∃ p : Int × Int, a = .int p.1 ∧ b = .int p.2 := fun {i a b} hi => by
    obtain ⟨p, _, e3⟩ := List.mem_map.mp (List.mem_of_getElem? hi)
    have e4 : PyData.tuple [.int p.1, .int p.2] = .tuple [a, b] := e3
    cases e4
    exact ⟨p, rfl, rfl⟩
  refine d_asg P2 (d := .list (((joinI ns).map fun k => (true, k)).map mvD)) ((ed_lc jnF jnW (ei_list (ed_var rfl r2)) (by rw [List.length_map]; omega) (turn_two pr (fun _ _ => rfl) (fun i a b x y G' e' hi ra rb => ?_) fun i a b x y G' e' hi ra rb _ => ?_)).is (by rw [joins_lc rise hin])) fun v2 G3 H3 P3 x3 y3 r3 => ?_
  · obtain ⟨p, rfl, rfl⟩ := at_ hi
    refine et_of' ((ed_eq (ed_var rfl rb) (ed_i0 (d := .int (p.1 + 1)) (ed_var rfl ra) ed_int rfl) (shaped_int _) (shaped_int _)).is ?_)
    show PyData.bool (PyData.eqv (.int p.2) (.int (p.1 + 1))) = .bool (decide (p.2 = p.1 + 1))
    congr 1
  · obtain ⟨p, rfl, rfl⟩ := at_ hi
    exact ed_tup (ea_cons ed_str (ea_cons (ed_var rfl ra) ea_nil)) (by show 2 ≤ 100000; decide)
  · refine d_asg P3 (d := .list ((dblI ns).map .int)) (ed_sortSet dbF dbW (dblI ns) (ei_list (ed_var rfl (r2.up x3))) (by rw [List.length_map]; omega) (by have := dblI_half ns; omega) (turn_two pr (fun _ _ => rfl) (fun i a b x y G' e' hi ra rb => ?_) fun i a b x y G' e' hi ra rb _ => ?_) (range_strict 100 _) (kept_dbl rise hin)) fun v3 G4 H4 P4 x4 y4 r4 => ?_
    · obtain ⟨p, rfl, rfl⟩ := at_ hi
      refine et_of' ((ed_eq (ed_var rfl ra) (ed_var rfl rb) (shaped_int _) (shaped_int _)).is ?_)
      show PyData.bool (PyData.eqv (.int p.1) (.int p.2)) = .bool (decide (p.1 = p.2))
      congr 1
    · obtain ⟨p, rfl, rfl⟩ := at_ hi
      exact ed_var rfl ra
    · refine d_retCat (E := E) P4 (ds := ((joinI ns).map fun k => (true, k)).map mvD) (es := ((dblI ns).map fun k => (false, k)).map mvD) (ed_var rfl (r3.up x4)) ((ed_lc (fun _ => true) (fun d => mvD (false, toI d)) (ei_list (ed_var rfl r4)) (by rw [List.length_map]; have := dblI_len ns; omega) (turn_name (fun _ => rfl) (fun _ _ _ _ _ _ _ => et_yes) fun i d x G' e' hi r' _ => ?_)).is ?_) ?_ ?_
      · obtain ⟨k, _, rfl⟩ := List.mem_map.mp (List.mem_of_getElem? hi)
        exact ed_tup (ea_cons ed_str (ea_cons (ed_var rfl r') ea_nil)) (by show 2 ≤ 100000; decide)
      · rw [lcD_all, List.map_map, List.map_map]
        rfl
      · rw [List.length_map, List.length_map, List.length_map, List.length_map]
        have := joinI_len ns
        have := dblI_len ns
        omega
      · unfold movesI at q
        rw [List.map_append] at q
        exact q
theorem has_moves_there : Has P w K mg base "moves_there" ["pile"] 2 (spO rMovesT) := (has_moves_thereN T).plain
theorem has_is_move : Has P w K mg base "is_move" ["thing"] 2 (spO rIsMove) := by
  have nd : (["thing", "kind", "place"] : List Str).Nodup := by decide +kernel
  refine has_of (N := ["thing", "kind", "place"]) T.a_is_move ⟨rfl, rfl, rfl, by decide +kernel, rfl, by decide +kernel, by decide +kernel⟩ (fun _ _ ⟨_, e, _⟩ => by rw [e]; rfl) fun cdv A outer s H vs Q E hr => ?_
  refine ⟨_, (pss_cons (ps_if (PW.pt (pw_or (pt_cmpR LmType.op_neTy (pe_callTy LmType.call_type (by rfl) T.b_type (by decide +kernel) (pa_cons (pv 0) pa_nil)) (pe_bltn (v := .ty "tuple") (u := .type "tuple") (by rfl) T.b_tuple (by decide +kernel) rfl) (nomark _)) (pw_or1 (pt_cmpR (op_neD hr.units) (pe_callB call_len_seq (by rfl) T.b_len (by decide +kernel) (pa_cons (pv 0) pa_nil)) pe_int (nomark _))))) (pss_one (ps_ret pe_bl)) pss_nil)
    (pss_cons (ps_asg (pv 0) (pg_tup rfl (pgs_cons (pg_name (i := 1) nd rfl (Or.inl rfl) (Or.inr rfl)) (pgs_cons (pg_name (i := 2) nd rfl (Or.inl rfl) (Or.inr rfl)) pgs_nil))))
    (pss_one (ps_ret (pe_and (pe_cmpR LmType.op_eqTy (pe_callTy LmType.call_type (by rfl) T.b_type (by decide +kernel) (pa_cons (pv 1) pa_nil)) (pe_bltn (v := .ty "str") (u := .type "str") (by rfl) T.b_str (by decide +kernel) rfl) (nomark _)) (pe_and (pe_cmpR op_in_seq (pv 1) (pe_tup (pa_cons (pe_csts (by rfl) T.c_JOIN) (pa_cons (pe_csts (by rfl) T.c_PART) pa_nil))) (by rfl)) (pe_one (pe_callH (has_is_place (P := P) (w := w) (base := base) T) (hr.mono (by decide)) (by rfl) passL (pa_cons (pv 2) pa_nil))))))))), fun G ds o e rp h q => ?_⟩
  obtain ⟨d, rfl, hd, rfl⟩ := h
  obtain ⟨v, rfl, r⟩ := one rp
  obtain ⟨S, hS⟩ := plain_ty hd
  have c1 := ed_tyNe (ev_type (ed_var (σ := start ["thing", "kind", "place"] [v]) (i := 0) rfl r) hS) (ev_c (v := .ty "tuple")) (tyD_known hS) known_tuple
  by_cases n : S = "tuple"
  · subst n
    obtain ⟨l, rfl⟩ := tyD_tuple hS
    have ee : ∀ k j : Int, PyData.eqv (.int k) (.int j) = decide (k = j) := fun k j => by simp [PyData.eqv]; exact Bool.eq_iff_iff.mpr (by rw [beq_iff_eq, decide_eq_true_eq])
    refine d_when (Part.refl e) (et_or (b := !decide ((l.length : Int) = 2)) (et_of' c1) fun _ => et_of' ((ed_ne (ed_lenT (ed_var rfl r)) ed_int (shaped_int _) (shaped_int _)).is (by rw [ee]))) (fun hb H1 P1 _ => ?_) fun hb H1 P1 _ => ?_
    · have h1 : l.length ≠ 2 := by
        intro z
        rw [z] at hb
        cases hb
      refine d_retD (E := E) P1 (ed_bl (b := false)) ?_
      rw [mv_two h1] at q
      exact q
    · have h1 : l.length = 2 := by
        by_cases z : l.length = 2
        · exact z
        · rw [decide_eq_true rfl, decide_eq_false (by omega)] at hb
          cases hb
      obtain ⟨a, b, rfl⟩ : ∃ a b, l = [a, b] := match l, h1 with
        | [a, b], _ => ⟨a, b, rfl⟩
      have ha : (tyD a).isSome = true := List.all_eq_true.mp hd a List.mem_cons_self
      have hb2 : (tyD b).isSome = true := List.all_eq_true.mp hd b (List.mem_cons_of_mem _ List.mem_cons_self)
      obtain ⟨S2, hS2⟩ := Option.isSome_iff_exists.mp ha
      refine d_unp P1 (ed_var rfl r) fun x y G2 H2 P2 x2 y2 rx ry => ?_
      refine d_retD (E := E) P2 ((ed_andV (a := decide (S2 = "str")) (b := isMvD (.tuple [a, b])) (ed_tyEq (ev_type (ed_var rfl rx) hS2) ev_c (tyD_known hS2) known_str) fun hs => ?_).is ?_) q
      · have hs2 := of_decide_eq_true hs
        rw [hs2] at hS2
        obtain ⟨s, rfl⟩ := tyD_str hS2
        exact ed_andV (ed_inStrT (ws := ["join", "part"]) (ed_var rfl rx) (ed_tup (ea_cons ed_str (ea_cons ed_str ea_nil)) (by show 2 ≤ 100000; decide))) fun _ => ed_call (ea_cons (ed_var rfl ry) ea_nil) ⟨b, rfl, hb2, rfl⟩
      · by_cases z : S2 = "str"
        · rw [decide_eq_true z, Bool.true_and]
        · rw [decide_eq_false z, Bool.false_and, not_mv hS2 z]
  · refine d_when (Part.refl e) (et_or (b := false) (et_of' c1) fun hb => ?_) (fun _ H1 P1 _ => ?_) fun hb H1 P1 _ => ?_
    · rw [decide_eq_false n] at hb
      cases hb
    · refine d_retD (E := E) P1 (ed_bl (b := false)) ?_
      rw [mv_tuple hS n] at q
      exact q
    · rw [decide_eq_false n] at hb
      cases hb
theorem has_going : Has P w K mg base "going" ["move"] 1 (spO rGoing) := by
  have nd : (["move", "kind", "place"] : List Str).Nodup := by decide +kernel
  refine has_of (N := ["move", "kind", "place"]) T.a_going ⟨rfl, rfl, rfl, by decide +kernel, rfl, by decide +kernel, by decide +kernel⟩ (fun _ _ ⟨_, e, _⟩ => by rw [e]; rfl) fun cdv A outer s H vs Q E hr => ?_
  refine ⟨_, (pss_cons (ps_asg (pv 0) (pg_tup rfl (pgs_cons (pg_name (i := 1) nd rfl (Or.inl rfl) (Or.inr rfl)) (pgs_cons (pg_name (i := 2) nd rfl (Or.inl rfl) (Or.inr rfl)) pgs_nil))))
    (pss_cons (ps_if (pt_cmpR (op_eqD hr.units) (pv 1) (pe_csts (by rfl) T.c_JOIN) (nomark _)) (pss_one (ps_ret (pe_lst (pa_cons (pv 2) (pa_cons (pe_op op_add (pv 2) pe_int) pa_nil))))) pss_nil)
    (pss_one (ps_ret (pe_lst (pa_cons (pv 2) (pa_cons (pv 2) pa_nil))))))), fun G ds o e rp h q => ?_⟩
  obtain ⟨⟨b, k⟩, rfl, rfl⟩ := h
  obtain ⟨v, rfl, r⟩ := one rp
  refine d_unp (Part.refl e) (ed_var (d := .tuple [.str (mvS b), .int k]) rfl r) fun x y G1 H1 P1 x1 y1 rx ry => ?_
  refine d_when P1 (et_of' ((ed_eq (ed_var rfl rx) ed_str (shaped_kind b) (by decide +kernel)).is (by rw [eqv_kind]))) (fun hb H2 P2 _ => ?_) fun hb H2 P2 _ => ?_
  · subst hb
    exact d_retD (E := E) P2 (ed_lst (ea_cons (ed_var rfl ry) (ea_cons (ed_i0 (d := .int (k + 1)) (ed_var rfl ry) ed_int rfl) ea_nil)) (by show 2 ≤ 100000; decide)) q
  · subst hb
    exact d_retD (E := E) P2 (ed_lst (ea_cons (ed_var rfl ry) (ea_cons (ed_var rfl ry) ea_nil)) (by show 2 ≤ 100000; decide)) q
theorem has_coming : Has P w K mg base "coming" ["move"] 1 (spO rComing) := by
  have nd : (["move", "kind", "place"] : List Str).Nodup := by decide +kernel
  refine has_of (N := ["move", "kind", "place"]) T.a_coming ⟨rfl, rfl, rfl, by decide +kernel, rfl, by decide +kernel, by decide +kernel⟩ (fun _ _ ⟨_, e, _⟩ => by rw [e]; rfl) fun cdv A outer s H vs Q E hr => ?_
  refine ⟨_, (pss_cons (ps_asg (pv 0) (pg_tup rfl (pgs_cons (pg_name (i := 1) nd rfl (Or.inl rfl) (Or.inr rfl)) (pgs_cons (pg_name (i := 2) nd rfl (Or.inl rfl) (Or.inr rfl)) pgs_nil))))
    (pss_cons (ps_if (pt_cmpR (op_eqD hr.units) (pv 1) (pe_csts (by rfl) T.c_JOIN) (nomark _)) (pss_one (ps_ret (pe_lst (pa_cons (pe_op op_add (pv 2) pe_int) pa_nil)))) pss_nil)
    (pss_cons (ps_if (pt_cmpR (op_eqD hr.units) (pv 2) pe_int (nomark _)) (pss_one (ps_ret (pe_lst (pa_cons pe_int pa_nil)))) pss_nil)
    (pss_cons (ps_if (pt_cmpR (op_eqD hr.units) (pv 2) pe_int (nomark _)) (pss_one (ps_ret (pe_lst (pa_cons pe_int (pa_cons pe_int pa_nil))))) pss_nil)
    (pss_one (ps_ret (pe_lst (pa_cons (pe_op op_sub (pv 2) pe_int) (pa_cons (pe_op op_add (pv 2) pe_int) pa_nil))))))))), fun G ds o e rp h q => ?_⟩
  obtain ⟨⟨b, k⟩, rfl, rfl⟩ := h
  obtain ⟨v, rfl, r⟩ := one rp
  have ee : ∀ j : Int, PyData.eqv (.int k) (.int j) = decide (k = j) := fun j => by simp [PyData.eqv]; exact Bool.eq_iff_iff.mpr (by rw [beq_iff_eq, decide_eq_true_eq])
  refine d_unp (Part.refl e) (ed_var (d := .tuple [.str (mvS b), .int k]) rfl r) fun x y G1 H1 P1 x1 y1 rx ry => ?_
  refine d_when P1 (et_of' ((ed_eq (ed_var rfl rx) ed_str (shaped_kind b) (by decide +kernel)).is (by rw [eqv_kind]))) (fun hb H2 P2 _ => ?_) fun hb H2 P2 _ => ?_
  · subst hb
    exact d_retD (E := E) P2 (ed_lst (ea_cons (ed_i0 (d := .int (k + 2)) (ed_var rfl ry) ed_int rfl) ea_nil) (by show 1 ≤ 100000; decide)) q
  · subst hb
    refine d_when P2 (et_of' ((ed_eq (ed_var rfl ry) ed_int (shaped_int _) (shaped_int _)).is (by rw [ee]))) (fun hb2 H3 P3 _ => ?_) fun hb2 H3 P3 _ => ?_
    · have h0 := of_decide_eq_true hb2
      refine d_retD (E := E) P3 ((ed_lst (ea_cons ed_int ea_nil) (by show 1 ≤ 100000; decide)).is ?_) q
      unfold comeI
      rw [if_neg (fun z => by cases z), if_pos h0]
      rfl
    · have h0 := of_decide_eq_false hb2
      refine d_when P3 (et_of' ((ed_eq (ed_var rfl ry) ed_int (shaped_int _) (shaped_int _)).is (by rw [ee]))) (fun hb3 H4 P4 _ => ?_) fun hb3 H4 P4 _ => ?_
      · have h1 := of_decide_eq_true hb3
        refine d_retD (E := E) P4 ((ed_lst (ea_cons ed_int (ea_cons ed_int ea_nil)) (by show 2 ≤ 100000; decide)).is ?_) q
        unfold comeI
        rw [if_neg (fun z => by cases z), if_neg h0, if_pos h1]
        rfl
      · have h1 := of_decide_eq_false hb3
        refine d_retD (E := E) P4 ((ed_lst (ea_cons (ed_i0 (d := .int (k - 2)) (ed_var rfl ry) ed_int rfl) (ea_cons (ed_i0 (d := .int (k + 1)) (ed_var rfl ry) ed_int rfl) ea_nil)) (by show 2 ≤ 100000; decide)).is ?_) q
        unfold comeI
        rw [if_neg (fun z => by cases z), if_neg h0, if_neg h1]
        rfl
theorem has_fits : Has P w K mg base "fits" ["move"] 2 (spO rFits) := by
  have nd : (["move"] : List Str).Nodup := by decide +kernel
  refine has_of (N := ["move"]) T.a_fits ⟨rfl, rfl, rfl, by decide +kernel, rfl, by decide +kernel, by decide +kernel⟩ (fun _ _ ⟨_, e, _⟩ => by rw [e]; rfl) fun cdv A outer s H vs Q E hr => ?_
  refine ⟨_, (pss_one (ps_ret (pe_cmpR op_le (pe_callB (cr_max rfl) (by rfl) T.b_max (by decide +kernel) (pa_cons (pe_callH (has_coming (P := P) (w := w) (base := base) T) (hr.mono (by decide)) (by rfl) passL (pa_cons (pv 0) pa_nil)) pa_nil)) (pe_cst (by rfl) T.c_LAST_PLACE) (nomark _)))), fun G ds o e rp h q => ?_⟩
  obtain ⟨m, rfl, rfl⟩ := h
  obtain ⟨v, rfl, r⟩ := one rp
  exact d_retD (E := E) (Part.refl e) (ed_i0 (d := .bool (decide (topI m ≤ 99))) (ed_max (m := topI m) (ed_call (ea_cons (ed_var rfl r) ea_nil) ⟨m, rfl, rfl⟩) (come_len m).1 (top_one m)) ed_int rfl) q
theorem has_exchanged : Has P w K mg base "exchanged" ["pile", "gone", "come"] 1 (spO rExch) := by
  have nd : (["pile", "gone", "come", "marks", "place"] : List Str).Nodup := by decide +kernel
  refine has_of (N := ["pile", "gone", "come", "marks", "place"]) T.a_exchanged ⟨rfl, rfl, rfl, by decide +kernel, rfl, by decide +kernel, by decide +kernel⟩ (fun _ _ ⟨_, _, _, e, _⟩ => by rw [e]; rfl) fun cdv A outer s H vs Q E hr => ?_
  refine ⟨_, (pss_cons (ps_set (i := 3) nd rfl (.inl rfl) (pe_callTy call_list_of (by rfl) T.b_list (by decide +kernel) (pa_cons (pv 0) pa_nil)))
    (pss_cons (ps_for (passes_of rfl) rfl (pi_list (pv 1)) (pg_name (i := 4) nd rfl (Or.inl rfl) (Or.inr rfl)) (pss_one (ps_expr (pe_bm PySem.F.plainAttrs_list PySem.F.slot_list_remove PySem.F.type_list_remove mt_remove (pv 3) (pa_cons (pv 4) pa_nil)))))
    (pss_one (ps_ret (pe_tupleOf (by rfl) T.b_tuple (pe_callB cr_sortedI (by rfl) T.b_sorted (by decide +kernel) (pa_cons (pe_op op_cat (pv 3) (pv 2)) pa_nil))))))), fun G ds o e rp h q => ?_⟩
  obtain ⟨ns, gone, come, rfl, hz, hc, hg, rfl⟩ := h
  obtain ⟨v1, v2, v3, rfl, r1, r2, r3⟩ := three rp
  refine d_listT (Part.refl e) (ed_var rfl r1) fun l H5 n5 e5 P5 gl hl => ?_
  refine d_forM (its := gone.map .int) P5 (ei_list (ed_var rfl r2))
    (fun G1 i σ' H' => (∃ z, σ' = [some v1, some v2, some v3, some (.ref l), z]) ∧ Part G H G1 H' ∧ Ex G G1 ∧ G1 l = none ∧ H' l = some (.lst ((offI ns (gone.take i)).map V.int)))
    (fun G1 H6 p => ⟨⟨_, rfl⟩, P5.trans p, p.ext, p.off gl e5, p.old _ _ e5⟩) (fun G1 i σ' H' _ q => q.2.1.sub) (fun G1 i x σ' H6 H7 hi x6 pv y => ?_) fun G1 σ' H6 x6 pv => ?_
  · obtain ⟨⟨z, rfl⟩, P6, _, g6, e6⟩ := pv
    obtain ⟨G7, d, p7, i7, r7⟩ := y G1 (Ex.refl G1) P6.sub
    have e7 := p7.old _ _ e6
    have P7 := P6.on p7.old
    rw [List.getElem?_map] at i7
    cases hk : gone[i]? with
    | none =>
      rw [hk] at i7
      cases i7
    | some k =>
      rw [hk] at i7
      cases i7
      cases r7
      refine s_rem e7 (ev_var rfl) (ev_var rfl) (hg i k hk) fun H8 x8 => ⟨⟨_, rfl⟩, (P7.on x8).mut g6 hl, by assumption, g6, ?_⟩
      rw [upd_same, off_snoc hk]
  · obtain ⟨⟨z, rfl⟩, P6, x7, g6, e6⟩ := pv
    rw [List.length_map, List.take_length] at e6
    have P8 := P6.take g6 hl e6
    have u8 : Ex G1 (upd G1 l (.lst ((offI ns gone).map V.int))) := Ex.new g6
    have ll := off_len ns gone
    refine d_retD (E := E) P8 (ed_tupleL (ed_sorted (ns := offI ns gone ++ come) (ms := exchI ns gone come) ((ed_catL (ds := (offI ns gone).map .int) (es := come.map .int) (ed_var rfl (.lst upd_same (RpA.ofInts _))) (ed_var rfl (r3.up (x7.trans u8))) ?_).is ?_) fun ks k1 k2 => srt_one k1 k2)) q
    · rw [List.length_map, List.length_map]
      omega
    · rw [List.map_append]
theorem has_behind : Has P w K mg base "behind" ["pile", "move"] 2 (spO rBehind) := by
  have nd : (["pile", "move"] : List Str).Nodup := by decide +kernel
  refine has_of (N := ["pile", "move"]) T.a_behind ⟨rfl, rfl, rfl, by decide +kernel, rfl, by decide +kernel, by decide +kernel⟩ (fun _ _ ⟨_, _, e, _⟩ => by rw [e]; rfl) fun cdv A outer s H vs Q E hr => ?_
  refine ⟨_, (pss_one (ps_ret (pe_callH (has_exchanged (P := P) (w := w) (base := base) T) (hr.mono (by decide)) (by rfl) passL (pa_cons (pv 0) (pa_cons (pe_callH (has_going (P := P) (w := w) (base := base) T) (hr.mono (by decide)) (by rfl) passL (pa_cons (pv 1) pa_nil)) (pa_cons (pe_callH (has_coming (P := P) (w := w) (base := base) T) (hr.mono (by decide)) (by rfl) passL (pa_cons (pv 1) pa_nil)) pa_nil)))))), fun G ds o e rp h q => ?_⟩
  obtain ⟨ns, m, rfl, hz, g1, g2, rfl⟩ := h
  obtain ⟨v1, v2, rfl, r1, r2⟩ := two rp
  exact d_retD (E := E) (Part.refl e) (ed_call (ea_cons (ed_var rfl r1) (ea_cons (ed_call (ea_cons (ed_var rfl r2) ea_nil) ⟨m, rfl, rfl⟩) (ea_cons (ed_call (ea_cons (ed_var rfl r2) ea_nil) ⟨m, rfl, rfl⟩) ea_nil))) ⟨ns, [goA m, goB m], comeI m, rfl, hz, by have := (come_len m).2; omega, gone_two g1 g2, rfl⟩) q
theorem has_done : Has P w K mg base "done" ["pile", "move"] 5 (spO (rDone (T.er.c 0) (T.er.c 2) (T.er.c 3))) := by
  have nd : (["pile", "move"] : List Str).Nodup := by decide +kernel
  refine has_of (N := ["pile", "move"]) T.a_done ⟨rfl, rfl, rfl, by decide +kernel, rfl, by decide +kernel, by decide +kernel⟩ (fun _ _ h => by rcases h with ⟨_, _, e, _⟩ | ⟨_, _, e, _⟩ | ⟨_, _, e, _⟩ <;> rw [e] <;> rfl) fun cdv A outer s H vs Q E hr => ?_
  refine ⟨_, (pss_cons (ps_expr (pe_callH (has_need_pile (P := P) (w := w) (base := base) T) (hr.mono (by decide)) (by rfl) (passes_call (takes_of rfl rfl rfl rfl) (fun _ _ _ _ h => h)) (pa_cons (pv 0) pa_nil)))
    (pss_cons (ps_if (PW.pt (pw_or (pt_not (pt_val (pe_callH (has_is_move (P := P) (w := w) (base := base) T) (hr.mono (by decide)) (by rfl) passL (pa_cons (pv 1) pa_nil)))) (pw_or1 (pt_cmpR (op_notInD (room65 hr)) (pv 1) (pe_callH (has_moves_there (P := P) (w := w) (base := base) T) (hr.mono (by decide)) (by rfl) passL (pa_cons (pv 0) pa_nil)) (by rfl))))) (pss_one (ps_raise rfl (takes_of rfl rfl rfl rfl) (pmk_own PySem.F.excBase_ValueError (T.er.x 2 (by decide)) T.er.g2 (T.er.k 2 (by decide)) (raises_own (T.er.e 2 (by decide)) (T.er.t 2 (by decide))) rfl))) pss_nil)
    (pss_cons (ps_if (pt_not (pt_val (pe_callH (has_fits (P := P) (w := w) (base := base) T) (hr.mono (by decide)) (by rfl) passL (pa_cons (pv 1) pa_nil)))) (pss_one (ps_raise rfl (takes_of rfl rfl rfl rfl) (pmk_own PySem.F.excBase_ValueError (T.er.x 3 (by decide)) T.er.g3 (T.er.k 3 (by decide)) (raises_own (T.er.e 3 (by decide)) (T.er.t 3 (by decide))) rfl))) pss_nil)
    (pss_one (ps_ret (pe_callH (has_behind (P := P) (w := w) (base := base) T) (hr.mono (by decide)) (by rfl) passL (pa_cons (pv 0) (pa_cons (pv 1) pa_nil)))))))), fun G ds o e rp h q => ?_⟩
  rcases h with ⟨d, m, rfl, hd, hp, rfl⟩ | ⟨ns, d, rfl, hp, hz, hd, hm, rfl⟩ | ⟨ns, m, rfl, hp, hz, m0, m1, rfl⟩
  · obtain ⟨v1, v2, rfl, r1, r2⟩ := two rp
    refine d_drop (d := .none) (Part.refl e) (ex_call (ea_cons (ed_var rfl r1) ea_nil) ⟨_, rfl, hd, rfl⟩) (fun d2 ed H1 P1 x1 => ?_) fun C eC H3 x3 => ?_
    · rw [hp] at ed
      cases ed
    · rw [hp] at eC
      cases eC
      exact q H3 x3
  · obtain ⟨v1, v2, rfl, r1, r2⟩ := two rp
    refine d_drop (d := .none) (Part.refl e) (ex_call (ea_cons (ed_var rfl r1) ea_nil) ⟨_, rfl, plain_ints ns, rfl⟩) (fun d2 ed H1 P1 x1 => ?_) fun C eC H3 x3 => ?_
    · refine d_when P1 (b := true) (et_is (et_or (a := true) (b := true) (et_is (et_not (et_of (ed_call (ea_cons (ed_var rfl r2) ea_nil) ⟨_, rfl, hd, rfl⟩))) (by rw [hm]; rfl)) fun z => by cases z) rfl) (fun _ H2 P2 _ => ?_) fun hb => by cases hb
      exact q H2 P2.old
    · rw [isPile_ints, hp] at eC
      cases eC
  · obtain ⟨v1, v2, rfl, r1, r2⟩ := two rp
    refine d_drop (d := .none) (Part.refl e) (ex_call (ea_cons (ed_var rfl r1) ea_nil) ⟨_, rfl, plain_ints ns, rfl⟩) (fun d2 ed H1 P1 x1 => ?_) fun C eC H3 x3 => ?_
    · refine d_when P1 (b := !decide (m ∈ movesI ns)) (et_is (et_or (a := false) (b := !decide (m ∈ movesI ns)) (et_is (et_not (et_of (ed_call (ea_cons (ed_var rfl r2) ea_nil) ⟨_, rfl, rfl, rfl⟩))) (by rw [mv_is ⟨m0, m1⟩]; rfl)) fun _ =>
        et_of' ((ed_notInD (ed_var rfl r2) (ed_call (ea_cons (ed_var rfl r1) ea_nil) ⟨ns, rfl, hp, hz, rfl⟩) (shaped_mv m) (shaped_mvs _)).is (by rw [any_mv]))) (Bool.false_or _)) (fun hb H2 P2 _ => ?_) fun hb H2 P2 _ => ?_
      · have hn : m ∉ movesI ns := by simpa using hb
        unfold doneO at q
        rw [if_neg hn] at q
        exact q H2 P2.old
      · have hn : m ∈ movesI ns := by simpa using hb
        unfold doneO at q
        rw [if_pos hn] at q
        obtain ⟨g1, g2⟩ := (mem_moves (pile_in hp) m).mp hn
        refine d_when P2 (b := decide (99 < topI m)) (et_is (et_not (et_of (ed_call (ea_cons (ed_var rfl r2) ea_nil) ⟨m, rfl, rfl⟩))) (not_le99 _)) (fun hb2 H4 P4 _ => ?_) fun hb2 H4 P4 _ => ?_
        · rw [if_pos (of_decide_eq_true hb2)] at q
          exact q H4 P4.old
        · rw [if_neg (of_decide_eq_false hb2)] at q
          exact d_retD (E := E) P4 (ed_call (ea_cons (ed_var rfl r1) (ea_cons (ed_var rfl r2) ea_nil)) ⟨ns, m, rfl, by omega, g1, g2, rfl⟩) q
    · rw [isPile_ints, hp] at eC
      cases eC
theorem has_closing : Has P w K mg base "closing" ["place"] 1 (spO rClosing) := by
  have nd : (["place"] : List Str).Nodup := by decide +kernel
  refine has_of (N := ["place"]) T.a_closing ⟨rfl, rfl, rfl, by decide +kernel, rfl, by decide +kernel, by decide +kernel⟩ (fun _ _ ⟨_, e, _⟩ => by rw [e]; rfl) fun cdv A outer s H vs Q E hr => ?_
  refine ⟨_, (pss_one (ps_ret (pe_ifExp (pt_cmpR (op_eqD hr.units) (pv 0) pe_int (nomark _)) (pe_tup (pa_cons (pe_csts (by rfl) T.c_PART) (pa_cons pe_int pa_nil))) (pe_tup (pa_cons (pe_csts (by rfl) T.c_JOIN) (pa_cons (pe_op op_sub (pv 0) pe_int) pa_nil)))))), fun G ds o e rp h q => ?_⟩
  obtain ⟨k, rfl, rfl⟩ := h
  obtain ⟨v, rfl, r⟩ := one rp
  cases r
  refine d_retD (E := E) (Part.refl e) (ed_if (b := decide (k = 1)) (et_of' ((ed_eq (ed_var rfl (.int _)) ed_int (shaped_int _) (shaped_int _)).is (by rw [eqv_intI]))) (fun hb => ?_) fun hb => ?_) q
  · unfold clI
    rw [if_pos (of_decide_eq_true hb)]
    exact ed_tup (ds := [.str "part", .int 0]) (ea_cons ed_str (ea_cons ed_int ea_nil)) (by show 2 ≤ 100000; decide)
  · unfold clI
    rw [if_neg (of_decide_eq_false hb)]
    exact ed_tup (ds := [.str "join", .int (k - 2)]) (ea_cons ed_str (ea_cons (ed_0I (ed_var rfl (.int _)) ed_int) ea_nil)) (by show 2 ≤ 100000; decide)
theorem has_opened : Has P w K mg base "opened" ["pile", "k"] 4 (spO (rOpened (T.er.c 0) (T.er.c 2))) := by
  have nd : (["pile", "k", "move"] : List Str).Nodup := by decide +kernel
  refine has_of (N := ["pile", "k", "move"]) T.a_opened ⟨rfl, rfl, rfl, by decide +kernel, rfl, by decide +kernel, by decide +kernel⟩ (fun _ _ h => by rcases h with ⟨_, _, e, _⟩ | ⟨_, _, e, _⟩ <;> rw [e] <;> rfl) fun cdv A outer s H vs Q E hr => ?_
  refine ⟨_, (pss_cons (ps_expr (pe_callH (has_need_pile (P := P) (w := w) (base := base) T) (hr.mono (by decide)) (by rfl) (passes_call (takes_of rfl rfl rfl rfl) (fun _ _ _ _ h => h)) (pa_cons (pv 0) pa_nil)))
    (pss_cons (ps_if (PW.pt (pw_or (pt_not (pt_val (pe_callH (has_is_place (P := P) (w := w) (base := base) T) (hr.mono (by decide)) (by rfl) passL (pa_cons (pv 1) pa_nil)))) (pw_or (pt_cmpR (op_eqD hr.units) (pv 1) pe_int (nomark _)) (pw_or1 (pt_cmpR op_notIn_seq (pv 1) (pv 0) (by rfl)))))) (pss_one (ps_raise rfl (takes_of rfl rfl rfl rfl) (pmk_own PySem.F.excBase_ValueError (T.er.x 2 (by decide)) T.er.g2 (T.er.k 2 (by decide)) (raises_own (T.er.e 2 (by decide)) (T.er.t 2 (by decide))) rfl))) pss_nil)
    (pss_cons (ps_set (i := 2) nd rfl (.inl rfl) (pe_callH (has_closing (P := P) (w := w) (base := base) T) (hr.mono (by decide)) (by rfl) passL (pa_cons (pv 1) pa_nil)))
    (pss_one (ps_ret (pe_callH (has_exchanged (P := P) (w := w) (base := base) T) (hr.mono (by decide)) (by rfl) passL (pa_cons (pv 0) (pa_cons (pe_callH (has_coming (P := P) (w := w) (base := base) T) (hr.mono (by decide)) (by rfl) passL (pa_cons (pv 2) pa_nil)) (pa_cons (pe_callH (has_going (P := P) (w := w) (base := base) T) (hr.mono (by decide)) (by rfl) passL (pa_cons (pv 2) pa_nil)) pa_nil))))))))), fun G ds o e rp h q => ?_⟩
  rcases h with ⟨d, k, rfl, hd, hp, rfl⟩ | ⟨ns, k, rfl, hp, rfl⟩
  · obtain ⟨v1, v2, rfl, r1, r2⟩ := two rp
    refine d_drop (d := .none) (Part.refl e) (ex_call (ea_cons (ed_var rfl r1) ea_nil) ⟨_, rfl, hd, rfl⟩) (fun d2 ed H1 P1 x1 => ?_) fun C eC H3 x3 => ?_
    · rw [hp] at ed
      cases ed
    · rw [hp] at eC
      cases eC
      exact q H3 x3
  · obtain ⟨v1, v2, rfl, r1, r2⟩ := two rp
    cases r2
    have hl := pile_len hp
    refine d_drop (d := .none) (Part.refl e) (ex_call (ea_cons (ed_var rfl r1) ea_nil) ⟨_, rfl, plain_ints ns, rfl⟩) (fun d2 ed H1 P1 x1 => ?_) fun C eC H3 x3 => ?_
    · refine d_when P1 (b := !decide (0 < k ∧ k ∈ ns)) (et_is (et_or (a := !isPlaceD (.int k)) (b := decide (k = 0) || !decide (k ∈ ns)) (et_not (et_of (ed_call (ea_cons (ed_var rfl (.int k)) ea_nil) ⟨_, rfl, rfl, rfl⟩))) fun _ =>
        et_or (et_of' ((ed_eq (ed_var rfl (.int k)) ed_int (shaped_int _) (shaped_int _)).is (by rw [eqv_intI]))) fun _ => et_of' (ed_notInIntT (ed_var rfl (.int k)) (ed_var rfl r1))) (open_test hp)) (fun hb H2 P2 _ => ?_) fun hb H2 P2 _ => ?_
      · have hn : ¬ (0 < k ∧ k ∈ ns) := fun z => by rw [decide_eq_true z] at hb; cases hb
        unfold openO at q
        rw [if_neg hn] at q
        exact q H2 P2.old
      · have hn : 0 < k ∧ k ∈ ns := by
          by_cases z : 0 < k ∧ k ∈ ns
          · exact z
          · rw [decide_eq_false z] at hb
            cases hb
        unfold openO at q
        rw [if_pos hn] at q
        refine d_asg P2 (d := mvD (clI k)) (ed_call (ea_cons (ed_var rfl (.int k)) ea_nil) ⟨k, rfl, rfl⟩) fun v3 G3 H3 P3 x3 y3 r3 => ?_
        exact d_retD (E := E) P3 (ed_call (ea_cons (ed_var rfl (r1.up x3)) (ea_cons (ed_call (ea_cons (ed_var rfl r3) ea_nil) ⟨clI k, rfl, rfl⟩) (ea_cons (ed_call (ea_cons (ed_var rfl r3) ea_nil) ⟨clI k, rfl, rfl⟩) ea_nil))) ⟨ns, [k], opI k, by rw [come_cl, ← go_cl], by omega, by rw [op_len]; decide, gone_one hn.2, rfl⟩) q
    · rw [isPile_ints, hp] at eC
      cases eC
theorem has_moved : HasV P w K mg base "moved" ["row", "places"] (.int 1) 5 (spO (rMoved (T.er.c 1) (T.er.c 3))) := by
  have nd : (["row", "places", "place"] : List Str).Nodup := by decide +kernel
  refine has_ofV (N := ["row", "places", "place"]) T.a_moved ⟨rfl, rfl, rfl, by decide +kernel, rfl, by decide +kernel, by decide +kernel⟩ (fun _ _ _ _ ⟨_, _, _, _, rp, h, _⟩ => by rw [rp.len]; rcases h with ⟨_, _, e, _⟩ | ⟨_, _, e, _⟩ <;> rw [e] <;> rfl) fun cdv A outer s H vs Q E hr => ?_
  refine ⟨_, (pss_cons (ps_expr (pe_callH (has_need_row (P := P) (w := w) (base := base) T) (hr.mono (by decide)) (by rfl) (passes_call (takes_of rfl rfl rfl rfl) (fun _ _ _ _ h => h)) (pa_cons (pv 0) pa_nil)))
    (pss_cons (ps_if (PW.pt (pw_and (pt_truth (pv 0) (fun _ => rfl)) (pw_and1 (pt_cmpR op_gt (pe_op op_add (pe_ix ix_tup (pv 0) (pe_un un_neg pe_int) (fun _ _ => rfl)) (pv 1)) (pe_cst (by rfl) T.c_LAST_PLACE) (nomark _))))) (pss_one (ps_raise rfl (takes_of rfl rfl rfl rfl) (pmk_own PySem.F.excBase_ValueError (T.er.x 3 (by decide)) T.er.g3 (T.er.k 3 (by decide)) (raises_own (T.er.e 3 (by decide)) (T.er.t 3 (by decide))) rfl))) pss_nil)
    (pss_one (ps_ret (pe_tupleOf (by rfl) T.b_tuple (pe_lc (own := [("place", 2)]) (g := (gName 2)) (tt := tYes) (te := (tOp (rI0 fun i j => .int (i + j)) (tVar 2) (tVar 1))) rfl nd (pi_tup (pv 0)) (blkOk_by (own := [("place", 2)]) (N := ["row", "places", "place"]) (sc := defScope (topS 31)) (by decide +kernel)) (fun _ _ _ _ _ => (pg_name (i := 2) nd rfl (Or.inl rfl) (Or.inr rfl))) (fun _ _ _ _ _ => pts_nil) (fun _ _ _ _ _ => (pe_op op_add (pv 2) (pv 1))))))))), fun h => ?_⟩
  obtain ⟨G, ds, o, e, rp, h, q⟩ := h
  rcases h with ⟨d, p, rfl, hd, hp, rfl⟩ | ⟨n, p, rfl, hn, rfl⟩
  · obtain ⟨v1, v2, rfl, r1, r2⟩ := two rp
    refine d_drop (d := .none) (Part.refl e) (ex_call (ea_cons (ed_var rfl r1) ea_nil) ⟨_, rfl, hd, rfl⟩) (fun d2 ed H1 P1 x1 => ?_) fun C eC H3 x3 => ?_
    · rw [hp] at ed
      cases ed
    · rw [hp] at eC
      cases eC
      exact q H3 x3
  · obtain ⟨v1, v2, rfl, r1, r2⟩ := two rp
    cases r2
    have hl := row_len n
    refine d_drop (d := .none) (Part.refl e) (ex_call (ea_cons (ed_var rfl r1) ea_nil) ⟨_, rfl, row_plain n, rfl⟩) (fun d2 ed H1 P1 x1 => ?_) fun C eC H3 x3 => ?_
    · refine d_when P1 (b := decide (rowI n ≠ [] ∧ 99 < (rowI n).getLastD 0 + p)) (et_is (et_and (a := !((rowI n).map PyData.int).isEmpty) (b := decide (99 < (rowI n).getLastD 0 + p)) (et_truT (ed_var rfl r1)) fun ha => ?_) ?_) (fun hb H2 P2 _ => ?_) fun hb H2 P2 _ => ?_
      · have hne : rowI n ≠ [] := fun z => by
          rw [z] at ha
          cases ha
        have hl0 : 0 < (rowI n).length := List.length_pos_iff.mpr hne
        refine et_of' (ed_0B (ed_0I (ed_ixT (i := -1) (d := .int ((rowI n).getLastD 0)) (ed_var rfl r1) (ed_neg ed_int) ?_) (ed_var rfl (.int p))) ed_int)
        rw [atI_neg (j := (rowI n).length - 1) (by decide) (by rw [List.length_map]; omega), List.getElem?_map, ← List.getLast?_eq_getElem?, List.getLast?_eq_some_getLast hne, List.getLastD_eq_getLast?, List.getLast?_eq_some_getLast hne]
        rfl
      · cases z : rowI n with
        | nil => simp
        | cons a r => simp
      · unfold movedO at q
        rw [if_pos (of_decide_eq_true hb)] at q
        exact q H2 P2.old
      · unfold movedO at q
        rw [if_neg (of_decide_eq_false hb)] at q
        refine d_retD (E := E) P2 (ed_tupleL ((ed_lc (fun _ => true) (fun d => .int (toI d + p)) (ei_tup (ed_var rfl r1)) (by rw [List.length_map]; omega) (turn_name (fun _ => rfl) (fun _ _ _ _ _ _ _ => et_yes) fun i d x G' e' hi r _ => ?_)).is ?_)) q
        · obtain ⟨m, _, rfl⟩ := List.mem_map.mp (List.mem_of_getElem? hi)
          exact ed_0I (ed_var rfl r) (ed_var rfl (.int p))
        · rw [lcD_all]
          unfold upI
          rw [List.map_map, List.map_map]
          rfl
    · rw [row_is hn] at eC
      cases eC
theorem has_law_mix : Has P w K mg base "_law_mix" ["_law_cell", "_law_k"] 1 (spO rMix) := by
  have nd : (["_law_cell", "_law_k", "_law_made"] : List Str).Nodup := by decide +kernel
  refine has_of (N := ["_law_cell", "_law_k", "_law_made"]) T.a__law_mix ⟨rfl, rfl, rfl, by decide +kernel, rfl, by decide +kernel, by decide +kernel⟩ (fun _ _ ⟨_, _, e, _⟩ => by rw [e]; rfl) fun cdv A outer s H vs Q E hr => ?_
  refine ⟨_, (pss_cons (ps_set (i := 2) nd rfl (.inl rfl) (pe_op op_mod (pe_op op_add (pe_op op_add (pe_op op_add (pe_op op_mul (pv 0) pe_int) (pe_op op_mul (pe_op op_mul pe_int (pv 1)) (pv 1))) (pe_op op_mul pe_int (pv 1))) pe_int) pe_int))
    (pss_one (ps_ret (pe_op op_mod (pe_op op_mul (pv 2) (pe_op op_add (pe_op op_add (pv 2) (pe_op op_mul pe_int (pv 1))) pe_int)) pe_int)))), fun G ds o e rp h q => ?_⟩
  obtain ⟨c, k, rfl, k0, k1, rfl⟩ := h
  obtain ⟨v1, v2, rfl, r1, r2⟩ := two rp
  have s1 : EvD (tVar 0) (start ["_law_cell", "_law_k", "_law_made"] [v1, v2]) G (.int c) := ed_var rfl r1
  have s2 : EvD (tVar 1) (start ["_law_cell", "_law_k", "_law_made"] [v1, v2]) G (.int k) := ed_var rfl r2
  refine d_asgS (v := .int ((c * 48271 + 7919 * k * k + 31 * k + 5) % 2147483647)) (Part.refl e) (d := .int ((c * 48271 + 7919 * k * k + 31 * k + 5) % 2147483647)) (ed_iC (ed_i0 (ed_i0 (ed_i0 (ed_iC s1 ed_int ?_ rfl) (ed_iC (ed_iC ed_int s2 ?_ rfl) s2 ?_ rfl) rfl) (ed_iC ed_int s2 ?_ rfl) rfl) ed_int rfl) ed_int ?_ rfl) rfl fun H1 P1 x1 => ?_
  · exact .inr (by decide)
  · exact .inl (by decide)
  · exact .inr ⟨by omega, by omega⟩
  · exact .inl (by decide)
  · decide
  · have m0 : 0 ≤ (c * 48271 + 7919 * k * k + 31 * k + 5) % 2147483647 := Int.emod_nonneg _ (by decide)
    have m1 : (c * 48271 + 7919 * k * k + 31 * k + 5) % 2147483647 < 2147483647 := Int.emod_lt_of_pos _ (by decide)
    have q1 : Want (.val (.int (((c * 48271 + 7919 * k * k + 31 * k + 5) % 2147483647) * ((c * 48271 + 7919 * k * k + 31 * k + 5) % 2147483647 + 2 * k + 1) % 2147483629))) G H Q E := q
    generalize (c * 48271 + 7919 * k * k + 31 * k + 5) % 2147483647 = m at m0 m1 q1 ⊢
    have s3 : EvD (tVar 2) [some v1, some v2, some (.int m)] G (.int m) := ed_var rfl (.int m)
    have s2 : EvD (tVar 1) [some v1, some v2, some (.int m)] G (.int k) := ed_var rfl r2
    refine d_retD (E := E) P1 (ed_iC (ed_iC s3 (ed_i0 (ed_i0 s3 (ed_iC ed_int s2 ?_ rfl) rfl) ed_int rfl) ?_ rfl) ed_int ?_ rfl) q1
    · exact .inl (by decide)
    · exact .inl ⟨by omega, by omega⟩
    · decide
theorem has_law_worths : Has P w K mg base "_law_worths" [] 1 (spO (rWorths 101)) := by
  have nd : (["_law_found"] : List Str).Nodup := by decide +kernel
  refine has_of (N := ["_law_found"]) T.a__law_worths ⟨rfl, rfl, rfl, by decide +kernel, rfl, by decide +kernel, by decide +kernel⟩ (fun _ _ ⟨e, _⟩ => by rw [e]; rfl) fun cdv A outer s H vs Q E hr => ?_
  refine ⟨_, (pss_cons (ps_set (i := 0) nd rfl (.inl rfl) (pe_lst (pa_cons pe_int (pa_cons pe_int pa_nil))))
    (pss_cons (ps_while (passes_of rfl) (pt_cmpR op_lt (pe_callB call_len_seq (by rfl) T.b_len (by decide +kernel) (pa_cons (pv 0) pa_nil)) pe_int (nomark _)) (pss_one (ps_expr (pe_bm PySem.F.plainAttrs_list PySem.F.slot_list_append PySem.F.type_list_append mt_append (pv 0) (pa_cons (pe_op op_add (pe_ix ix_list (pv 0) (pe_un un_neg pe_int) (fun _ _ => rfl)) (pe_ix ix_list (pv 0) (pe_un un_neg pe_int) (fun _ _ => rfl))) pa_nil)))))
    (pss_one (ps_ret (pv 0))))), fun G ds o e rp h q => ?_⟩
  obtain ⟨rfl, rfl⟩ := h
  cases rp
  refine q_asgL (el_lst (Evl.ea_cons ev_c (Evl.ea_cons ev_c Evl.ea_nil)) (by decide)) fun p H1 hp x1 e1 => ?_
  refine q_while (fun m σ' H' => m ≤ 99 ∧ σ' = [some (.ref p)] ∧ Ex H H' ∧ H' p = some (.lst ((fws (101 - m)).map V.int))) 99 ⟨by decide, rfl, x1, e1⟩ fun m σ' H' ⟨hm, es, x2, e2⟩ => ?_
  subst es
  have rl : Rp H' (.ref p) (.list ((fws (101 - m)).map .int)) := .lst e2 (RpA.ofInts _)
  have len : ((fws (101 - m)).map PyData.int).length = 101 - m := by rw [List.length_map, fws_len]
  refine ⟨_, et_of' (ed_i0 (ed_lenL (ed_var rfl rl)) ed_int rfl), fun hb H2 x3 => ?_, fun hb H2 x3 => ?_⟩
  · have hb2 := of_decide_eq_true hb
    rw [len] at hb2
    have m1 : 0 < m := by omega
    have e3 := x3 _ _ e2
    have rl2 := rl.up x3
    refine ⟨fun σ2 H3 => σ2 = [some (.ref p)] ∧ Ex H H3 ∧ H3 p = some (.lst ((fws (101 - (m - 1))).map V.int)), fun σ2 H3 ⟨a, b, c⟩ => ⟨m - 1, by omega, by omega, a, b, c⟩, ?_⟩
    refine s_app e3 (ev_var rfl) ((ed_i0 (d := .int (fw (101 - m - 1) + fw (101 - m - 2))) (i := fw (101 - m - 1)) (j := fw (101 - m - 2)) (ed_ixL (ed_var rfl rl2) (ed_neg ed_int) ?_) (ed_ixL (ed_var rfl rl2) (ed_neg ed_int) ?_) rfl).ev (v := .int (fw (101 - m - 1) + fw (101 - m - 2))) rfl) (by rw [List.length_map, fws_len]; omega) fun H4 x4 => ⟨rfl, (x2.trans (x3.trans x4)).mut hp, ?_⟩
    · rw [atI_neg (j := 101 - m - 1) (by decide) (by rw [len]; omega), List.getElem?_map, fws_at (by omega)]
      rfl
    · rw [atI_neg (j := 101 - m - 2) (by decide) (by rw [len]; omega), List.getElem?_map, fws_at (by omega)]
      rfl
    · rw [upd_same]
      rw [show 101 - (m - 1) = (101 - m) + 1 by omega, fws_succ, List.map_append]
      obtain ⟨k, ek⟩ : ∃ k, 101 - m = k + 2 := ⟨99 - m, by omega⟩
      rw [ek, Int.add_comm]
      rfl
  · have hb2 := of_decide_eq_false hb
    rw [len] at hb2
    have m0 : m = 0 := by omega
    subst m0
    exact d_retNew (E := E) e hp (x2.trans x3) (x3 _ _ e2) (RpA.ofInts _) rfl q
theorem has_law_row : Has P w K mg base "_law_row" ["_law_number"] 2 (spO rLRow) := by
  have nd : (["_law_number", "_law_found", "_law_each", "_law_place_here"] : List Str).Nodup := by decide +kernel
  refine has_of (N := ["_law_number", "_law_found", "_law_each", "_law_place_here"]) T.a__law_row ⟨rfl, rfl, rfl, by decide +kernel, rfl, by decide +kernel, by decide +kernel⟩ (fun _ _ ⟨_, e, _⟩ => by rw [e]; rfl) fun cdv A outer s H vs Q E hr => ?_
  refine ⟨_, (pss_cons (ps_set (i := 1) nd rfl (.inl rfl) (pe_lst pa_nil))
    (pss_cons (ps_set (i := 2) nd rfl (.inl rfl) (pe_callH0 (has_law_worths (P := P) (w := w) (base := base) T) (hr.mono (by decide)) (by rfl) passL))
    (pss_cons (ps_for (passes_of rfl) rfl (pi_revR (by rfl) T.b_reversed (prg_1 (by rfl) T.b_range pe_int)) (pg_name (i := 3) nd rfl (Or.inl rfl) (Or.inr rfl)) (pss_one (ps_if (pt_cmpR op_le (pe_ix ix_list (pv 2) (pv 3) (fun _ _ => rfl)) (pv 0) (nomark _)) (pss_cons (ps_expr (pe_bm PySem.F.plainAttrs_list PySem.F.slot_list_append PySem.F.type_list_append mt_append (pv 1) (pa_cons (pv 3) pa_nil)))
    (pss_one (ps_set (i := 0) nd rfl (.inl rfl) (pe_op op_sub (pv 0) (pe_ix ix_list (pv 2) (pv 3) (fun _ _ => rfl)))))) pss_nil)))
    (pss_one (ps_ret (RT.pe_tupRev rfl (by rfl) T.b_tuple (by rfl) T.b_reversed (pv 1))))))), fun G ds o e rp h q => ?_⟩
  obtain ⟨n, rfl, rfl⟩ := h
  obtain ⟨v, rfl, r⟩ := one rp
  cases r
  refine d_newL (ds := []) (Part.refl e) ea_nil (by decide) fun l xs G1 H1 P1 x1 rx e1 g1 h1 => ?_
  cases rx
  refine d_asgP P1 (ed_call ea_nil ⟨rfl, rfl⟩) fun ve G2 H2 p2 re => ?_
  have g2 : G2 l = none := p2.off g1 e1
  have e2 := p2.old _ _ e1
  refine d_forM (its := rvD 100) (P1.trans p2) (ei_revR (j := 100) ed_int ⟨by decide, by decide⟩)
    (fun Gx i σ' H' => ∃ (ks : List Int) (m : Int) (z : Option V), σ' = [some (.int m), some (.ref l), some ve, z] ∧ ks ++ grd (100 - i) m = grd 100 n ∧ ks.length ≤ i ∧ Part G H Gx H' ∧ Ex G2 Gx ∧ Gx l = none ∧ H' l = some (.lst (ks.map V.int)))
    (fun Gx H6 p => ⟨[], n, _, rfl, rfl, Nat.le_refl 0, (P1.trans p2).trans p, p.ext, p.off g2 e2, p.old _ _ e2⟩) (fun Gx i σ' H' _ ⟨_, _, _, _, _, _, q, _⟩ => q.sub) (fun Gx i x σ' H6 H7 hi x6 pv y => ?_) fun Gx σ' H6 x6 pv => ?_
  · obtain ⟨ks, m, z, rfl, hk, hl, P6, x26, g6, e6⟩ := pv
    obtain ⟨G7, d, p7, i7, r7⟩ := y Gx (Ex.refl Gx) P6.sub
    rw [rvD_len] at hi
    rw [rvD_at hi] at i7
    have P7 := P6.on p7.old
    have e7 := p7.old _ _ e6
    obtain ⟨j, hj⟩ : ∃ j : Nat, 100 - i = j + 1 := ⟨99 - i, by omega⟩
    have r8 : Rp G7 x (.int (j : Int)) := by
      rw [show (j : Int) = ((100 : Nat) : Int) - 1 - (i : Int) by omega]
      cases i7
      exact r7
    cases r8
    rw [hj, grd_turn] at hk
    have ix : ∀ {H' : Hp}, EvD (tOp (rIxL K) (tVar 2) (tVar 3)) [some (.int m), some (.ref l), some ve, some (.int (j : Int))] Gx (.int (fw j)) := fun {H'} => by
      refine ed_ixL (i := (j : Int)) (ed_var rfl (re.up x26)) (ed_var rfl (.int _)) ?_
      rw [atI_pos (by omega), Int.toNat_natCast, List.getElem?_map, fws_at (by omega)]
      rfl
    refine d_if1 P7 (et_of' (ed_i0 (d := .bool (decide (fw j ≤ m))) (ix (H' := H7)) (ed_var rfl (.int _)) rfl)) (fun hb H8 P8 x8 => ?_) fun hb H8 P8 x8 => ?_
    · rw [if_pos (of_decide_eq_true hb)] at hk
      refine s_app (x8 _ _ e7) (ev_var rfl) (ev_var (v := .int (j : Int)) rfl) (by rw [List.length_map]; omega) fun H9 x9 => ?_
      have P9 := (P8.on x9).mut (o := .lst (ks.map V.int ++ [.int (j : Int)])) g6 h1
      refine d_asg1S (v := .int (m - fw j)) P9 (d := .int (m - fw j)) (ed_i0 (ed_var rfl (.int m)) (ix (H' := H7)) rfl) rfl fun H10 P10 x10 => ?_
      refine ⟨ks ++ [(j : Int)], m - fw j, _, rfl, ?_, ?_, P10, x26, g6, ?_⟩
      · rw [show 100 - (i + 1) = j by omega, List.append_assoc]
        exact hk
      · rw [List.length_append]
        show ks.length + 1 ≤ i + 1
        omega
      · rw [List.map_append]
        exact x10 _ _ upd_same
    · rw [if_neg (of_decide_eq_false hb)] at hk
      exact ⟨ks, m, _, rfl, by rw [show 100 - (i + 1) = j by omega]; exact hk, by omega, P8, x26, g6, x8 _ _ e7⟩
  · obtain ⟨ks, m, z, rfl, hk, hl, P6, x26, g6, e6⟩ := pv
    rw [rvD_len] at hk
    have hk2 : ks = grd 100 n := by rw [← hk]; exact (List.append_nil ks).symm
    subst hk2
    have P8 := P6.take g6 h1 e6
    refine d_retD (E := E) P8 ((ed_tupRev (ds := (grd 100 n).map .int) (ed_var rfl (.lst upd_same (RpA.ofInts _)))).is ?_) q
    rw [← List.map_reverse]
    rfl
theorem has_law_worth : Has P w K mg base "_law_worth" ["_law_pile_here"] 2 (spO rLWorth) := by
  have nd : (["_law_pile_here", "_law_each", "_law_place_here"] : List Str).Nodup := by decide +kernel
  refine has_of (N := ["_law_pile_here", "_law_each", "_law_place_here"]) T.a__law_worth ⟨rfl, rfl, rfl, by decide +kernel, rfl, by decide +kernel, by decide +kernel⟩ (fun _ _ ⟨_, e, _⟩ => by rw [e]; rfl) fun cdv A outer s H vs Q E hr => ?_
  refine ⟨_, (pss_cons (ps_set (i := 1) nd rfl (.inr rfl) (pe_callH0 (has_law_worths (P := P) (w := w) (base := base) T) (hr.mono (by decide)) (by rfl) passL))
    (pss_one (ps_ret (pe_callB (cr_sum rfl) (by rfl) T.b_sum (by decide +kernel) (pa_cons (pe_lc (own := [("_law_place_here", 2)]) (g := (gName 2)) (tt := tYes) (te := (tOp (rIxL K) (tVar 1) (tVar 2))) rfl nd (pi_tup (pv 0)) (blkOk_by (own := [("_law_place_here", 2)]) (N := ["_law_pile_here", "_law_each", "_law_place_here"]) (sc := defScope (topS 36)) (by decide +kernel)) (fun _ _ _ _ _ => (pg_name (i := 2) nd rfl (Or.inl rfl) (Or.inr rfl))) (fun _ _ _ _ _ => pts_nil) (fun _ _ _ _ _ => (pe_ix ix_list (pv 1) (pv 2) (fun _ _ => rfl)))) pa_nil))))), fun G ds o e rp h q => ?_⟩
  obtain ⟨ns, rfl, hz, hn, rfl⟩ := h
  obtain ⟨v, rfl, r⟩ := one rp
  refine d_asg (Part.refl e) (ed_call ea_nil ⟨rfl, rfl⟩) fun v2 G2 H2 P2 x1 x2 r2 => ?_
  have q2 : Want (.val (.int (ns.map fun i => fw i.toNat).sum)) G H Q E := q
  refine d_retD (E := E) P2 (ed_sum (ns := ns.map fun i => fw i.toNat) ((ed_lc (fun _ => true) (fun d => .int (fw (toI d).toNat)) (ei_tup (ed_var rfl (r.up P2.ext))) (by rw [List.length_map]; omega) (turn_name (fun _ => rfl) (fun _ _ _ _ _ _ _ => et_yes) fun i d x G' e' hi r' _ => ?_)).is ?_)) q2
  · rw [List.getElem?_map] at hi
    cases hq : ns[i]? with
    | none =>
      rw [hq] at hi
      cases hi
    | some j =>
      rw [hq] at hi
      cases hi
      have hj := hn j (List.mem_of_getElem? hq)
      refine ed_ixL (ed_var rfl (r2.up e')) (ed_var rfl r') ?_
      rw [atI_pos hj.1, List.getElem?_map, fws_at (by omega)]
      rfl
  · rw [lcD_all, List.map_map, List.map_map]
    rfl
theorem has_law_place : Has P w K mg base "_law_place" ["_law_number"] 1 (spO rLPlace) := by
  have nd : (["_law_number", "_law_rest"] : List Str).Nodup := by decide +kernel
  refine has_of (N := ["_law_number", "_law_rest"]) T.a__law_place ⟨rfl, rfl, rfl, by decide +kernel, rfl, by decide +kernel, by decide +kernel⟩ (fun _ _ ⟨_, e, _⟩ => by rw [e]; rfl) fun cdv A outer s H vs Q E hr => ?_
  refine ⟨_, (pss_cons (ps_set (i := 1) nd rfl (.inl rfl) (pe_op op_fdiv (pv 0) pe_int))
    (pss_one (ps_ret (pe_ix ix_list (pe_lst (pa_cons (pe_op op_mod (pv 1) pe_int) (pa_cons (pe_op op_mod (pv 1) pe_int) (pa_cons (pe_op op_mod (pv 1) pe_int) (pa_cons (pe_op op_mod (pv 1) pe_int) (pa_cons pe_int (pa_cons pe_int (pa_cons (pe_op op_mod (pv 1) pe_int) (pa_cons pe_int pa_nil))))))))) (pe_op op_mod (pv 0) pe_int) (fun _ _ => rfl))))), fun G ds o e rp h q => ?_⟩
  obtain ⟨n, rfl, rfl⟩ := h
  obtain ⟨v, rfl, r⟩ := one rp
  refine d_asgS (v := .int (n / 8)) (d := .int (n / 8)) (Part.refl e) (ed_iC (ed_var rfl r) ed_int ⟨by decide, by decide⟩ rfl) rfl fun H1 P1 x1 => ?_
  have s1 : EvD (tVar 1) [some v, some (.int (n / 8))] G (.int (n / 8)) := ed_var rfl (.int _)
  have md : ∀ m : Int, 0 < m → EvD (tOp (rI (fun _ j => 0 < j) fun i j => .int (i % j)) (tVar 1) (tC (.int m))) [some v, some (.int (n / 8))] G (.int (n / 8 % m)) := fun m hm => ed_iC s1 ed_int hm rfl
  refine d_retD (E := E) P1 (ed_ixL (i := n % 8) (ed_lst (ea_cons (md 12 (by decide)) (ea_cons (md 6 (by decide)) (ea_cons (md 30 (by decide)) (ea_cons (md 100 (by decide)) (ea_cons ed_int (ea_cons ed_int (ea_cons (md 3 (by decide)) (ea_cons ed_int ea_nil)))))))) (by show 8 ≤ 100000; decide)) (ed_iC (ed_var rfl r) ed_int (by decide) rfl) ?_) q
  have h0 : 0 ≤ n % 8 := Int.emod_nonneg _ (by decide)
  have h1 : n % 8 < 8 := Int.emod_lt_of_pos _ (by decide)
  rw [atI_pos h0]
  unfold placeI
  have h2 : (n % 8).toNat < 8 := by omega
  generalize (n % 8).toNat = k at h2 ⊢
  match k, h2 with
  | 0, _ => rfl
  | 1, _ => rfl
  | 2, _ => rfl
  | 3, _ => rfl
  | 4, _ => rfl
  | 5, _ => rfl
  | 6, _ => rfl
  | 7, _ => rfl
  | k + 8, h => omega
theorem has_law_pile : Has P w K mg base "_law_pile" ["_law_script", "_law_first", "_law_most"] 2 (spH (rLPile K)) := by
  have nd : (["_law_script", "_law_first", "_law_most", "_law_some", "_law_k", "_law_cell"] : List Str).Nodup := by decide +kernel
  refine has_ofH (N := ["_law_script", "_law_first", "_law_most", "_law_some", "_law_k", "_law_cell"]) T.a__law_pile ⟨rfl, rfl, rfl, by decide +kernel, rfl, by decide +kernel, by decide +kernel⟩ (fun _ _ _ ⟨_, _, _, _, e, _⟩ => by rw [e]; rfl) fun cdv A outer s H vs Q E hr => ?_
  refine ⟨_, (pss_cons (ps_setLc (i := 3) (own := [("_law_k", 4), ("_law_cell", 5)]) (g := (gTup K 2 (gCons (gName 4) (gCons (gName 5) gNil)))) (tt := tYes) (te := (tCall (spO rLPlace) [] E0 (tCons (tCall (spO rMix) [] E0 (tCons (tVar 5) (tCons (tOp (rI0 fun i j => .int (i + j)) (tC (.int 11)) (tVar 4)) tNil))) tNil))) rfl nd rfl rfl (sw_true rfl rfl rfl (by decide +kernel)) (pi_enum (by rfl) T.b_enumerate (pa_cons (pe_slice sl_list (pv 0) (po_some (pv 1)) (po_some (pe_op op_add (pv 1) (pv 2)))) pa_nil)) (blkOk_by (own := [("_law_k", 4), ("_law_cell", 5)]) (N := ["_law_script", "_law_first", "_law_most", "_law_some", "_law_k", "_law_cell"]) (sc := defScope (topS 38)) (by decide +kernel)) (fun _ _ _ _ _ => (pg_tup rfl (pgs_cons (pg_name (i := 4) nd rfl (Or.inl rfl) (Or.inr rfl)) (pgs_cons (pg_name (i := 5) nd rfl (Or.inl rfl) (Or.inr rfl)) pgs_nil)))) (fun _ _ _ _ _ => pts_nil) (fun _ _ _ _ _ => (pe_callH (has_law_place (P := P) (w := w) (base := base) T) (hr.mono (by decide)) (by rfl) passL (pa_cons (pe_callH (has_law_mix (P := P) (w := w) (base := base) T) (hr.mono (by decide)) (by rfl) passL (pa_cons (pv 5) (pa_cons (pe_op op_add pe_int (pv 4)) pa_nil))) pa_nil))))
    (pss_one (ps_ret (pe_tupleOf (by rfl) T.b_tuple (pe_callB cr_sortedI (by rfl) T.b_sorted (by decide +kernel) (pa_cons (pv 3) pa_nil)))))), fun G ds o e rp h q => ?_⟩
  obtain ⟨a, ns, f, m, rfl, hS, hz, hf, hm, rfl⟩ := h
  obtain ⟨v1, v2, v3, rfl, r1, r2, r3⟩ := three rp
  cases r1
  cases r2
  cases r3
  have cz : (cutI ns f m).length ≤ 1000 := by
    unfold cutI
    rw [List.length_take]
    omega
  refine d_asg (Part.refl e) (ed_lcEn (fun k c => .int (placeI (mixI c (11 + k)))) (ei_enum (ed_slS (ms := cutI ns f m) (ev_var rfl) (eo_some (ev_var rfl)) (eo_some ((ed_i0 (d := .int ((f : Int) + (m : Int))) (ed_var rfl (.int _)) (ed_var rfl (.int _)) rfl).ev rfl)) hS (cutV_nat ns f m))) (by omega) (fun _ _ => rfl) fun k c G' e' hk hc => ?_) fun v G1 H1 P1 x1 x2 r1 => ?_
  · refine ed_call (ea_cons (ed_call (ea_cons (ed_var rfl (.int _)) (ea_cons (ed_i0 (d := .int (11 + (k : Int))) ed_int (ed_var rfl (.int _)) rfl) ea_nil)) ⟨c, 11 + (k : Int), rfl, by omega, by omega, rfl⟩) ea_nil) ⟨_, rfl, rfl⟩
  · refine d_retD (E := E) P1 (ed_tupleL (ed_sorted (ns := drawI (cutI ns f m) 11) (ms := pileS ns f m) ((ed_var rfl r1).is ?_) fun ks k1 k2 => srt_one k1 k2)) q
    unfold drawI
    rw [List.map_map]
    rfl
theorem has_law_word : Has P w K mg base "_law_word" ["_law_e"] 1 (spH (rWord T.er)) := by
  have nd : (["_law_e", "_law_words", "_law_told", "_law_word_here", "_law_good"] : List Str).Nodup := by decide +kernel
  refine has_ofH (N := ["_law_e", "_law_words", "_law_told", "_law_word_here", "_law_good"]) T.a__law_word ⟨rfl, rfl, rfl, by decide +kernel, rfl, by decide +kernel, by decide +kernel⟩ (fun _ _ _ ⟨_, _, _, e, _⟩ => by rw [e]; rfl) fun cdv A outer s H vs Q E hr => ?_
  refine ⟨_, (pss_cons (ps_set (i := 1) nd rfl (.inl rfl) (pe_lst (pa_cons (pe_tup (pa_cons pe_str (pa_cons (pe_callB LmExc.call_isErr (by rfl) T.b_isinstance (by decide +kernel) (pa_cons (pv 0) (pa_cons (pe_cls (by rfl) T.er.g0) pa_nil))) pa_nil))) (pa_cons (pe_tup (pa_cons pe_str (pa_cons (pe_callB LmExc.call_isErr (by rfl) T.b_isinstance (by decide +kernel) (pa_cons (pv 0) (pa_cons (pe_cls (by rfl) T.er.g1) pa_nil))) pa_nil))) (pa_cons (pe_tup (pa_cons pe_str (pa_cons (pe_callB LmExc.call_isErr (by rfl) T.b_isinstance (by decide +kernel) (pa_cons (pv 0) (pa_cons (pe_cls (by rfl) T.er.g2) pa_nil))) pa_nil))) pa_nil)))))
    (pss_cons (ps_set (i := 1) nd rfl (.inl rfl) (pe_op op_cat (pv 1) (pe_lst (pa_cons (pe_tup (pa_cons pe_str (pa_cons (pe_callB LmExc.call_isErr (by rfl) T.b_isinstance (by decide +kernel) (pa_cons (pv 0) (pa_cons (pe_cls (by rfl) T.er.g3) pa_nil))) pa_nil))) (pa_cons (pe_tup (pa_cons pe_str (pa_cons (pe_callB LmExc.call_isErr (by rfl) T.b_isinstance (by decide +kernel) (pa_cons (pv 0) (pa_cons (pe_cls (by rfl) T.er.g4) pa_nil))) pa_nil))) pa_nil)))))
    (pss_cons (ps_set (i := 1) nd rfl (.inl rfl) (pe_op op_cat (pv 1) (pe_lst (pa_cons (pe_tup (pa_cons pe_str (pa_cons (pe_callB LmExc.call_isErr (by rfl) T.b_isinstance (by decide +kernel) (pa_cons (pv 0) (pa_cons (pe_cls (by rfl) T.er.g5) pa_nil))) pa_nil))) pa_nil))))
    (pss_cons (ps_setLc (i := 2) (own := [("_law_word_here", 3), ("_law_good", 4)]) (g := (gTup K 2 (gCons (gName 3) (gCons (gName 4) gNil)))) (tt := (tB (tVar 4))) (te := (tVar 3)) rfl nd rfl rfl (sw_true rfl rfl rfl (by decide +kernel)) (pi_list (pv 1)) (blkOk_by (own := [("_law_word_here", 3), ("_law_good", 4)]) (N := ["_law_e", "_law_words", "_law_told", "_law_word_here", "_law_good"]) (sc := defScope (topS 39)) (by decide +kernel)) (fun _ _ _ _ _ => (pg_tup rfl (pgs_cons (pg_name (i := 3) nd rfl (Or.inl rfl) (Or.inr rfl)) (pgs_cons (pg_name (i := 4) nd rfl (Or.inl rfl) (Or.inr rfl)) pgs_nil)))) (fun _ _ _ _ _ => (pts_one (pt_val (pv 4)))) (fun _ _ _ _ _ => (pv 3)))
    (pss_cons (ps_if (PW.pt (pw_or (pt_cmpR (op_neD hr.units) (pe_callB call_len_seq (by rfl) T.b_len (by decide +kernel) (pa_cons (pv 2) pa_nil)) pe_int (nomark _)) (pw_or1 (pt_not (pt_val (pe_callB LmExc.call_isErr (by rfl) T.b_isinstance (by decide +kernel) (pa_cons (pv 0) (pa_cons (pe_bltn (v := .ty "ValueError") (u := .type "ValueError") (by rfl) T.b_ValueError (by decide +kernel) rfl) pa_nil)))))))) (pss_one (ps_ret pe_str)) pss_nil)
    (pss_one (ps_ret (pe_ix ix_list (pv 2) pe_int (fun _ _ => rfl))))))))), fun G ds o e rp h q => ?_⟩
  obtain ⟨a, i, hi, rfl, hG, rfl⟩ := h
  obtain ⟨v, rfl, r⟩ := one rp
  have row : ∀ (σ : L2.St) (G' : Hp) (j : Nat) (s : Str), j < 6 → Ex G G' → σ[0]? = some (some v) → EvD (tTup (tCons (tC (.str s)) (tCons (tCB (LmExc.rIsErr K) (tCons (tVar 0) (tCons (tC (.ref (T.er.c j))) tNil))) tNil))) σ G' (.tuple [.str s, .bool (decide (i = j))]) := fun σ G' j s hj e' hv =>
    ed_tup (ea_cons ed_str (ea_cons (ed_isErr (ed_var hv (r.up e')) ev_c (e' _ _ hG) (T.er.q i hi) (T.er.kit i j hi hj)) ea_nil)) (by show 2 ≤ 100000; decide)
  refine d_asg (Part.refl e) (ed_lst (ea_cons (row _ G 0 "NoPile" (by decide) (Ex.refl G) rfl) (ea_cons (row _ G 1 "NoRow" (by decide) (Ex.refl G) rfl) (ea_cons (row _ G 2 "NoMove" (by decide) (Ex.refl G) rfl) ea_nil))) (by show 3 ≤ 100000; decide)) fun v1 G1 H1 P1 x1 y1 r1 => ?_
  refine d_asg P1 (ed_catL (ed_var rfl r1) (ed_lst (ea_cons (row _ G1 3 "TooGreat" (by decide) x1 rfl) (ea_cons (row _ G1 4 "Below" (by decide) x1 rfl) ea_nil)) (by show 2 ≤ 100000; decide)) (by show 5 ≤ 100000; decide)) fun v2 G2 H2 P2 x2 y2 r2 => ?_
  refine d_asg P2 (ed_catL (ed_var rfl r2) (ed_lst (ea_cons (row _ G2 5 "NoText" (by decide) (x1.trans x2) rfl) ea_nil) (by show 1 ≤ 100000; decide)) (by show 6 ≤ 100000; decide)) fun v3 G3 H3 P3 x3 y3 r3 => ?_
  have r3' : Rp G3 v3 (.list (wordsD i)) := r3
  refine d_asg P3 (ed_lc wordsF wordsW (ei_list (ed_var rfl r3')) (by show 6 ≤ 100000; decide) (turn_two (fun d hd => ?_) (fun _ _ => rfl) (fun k a b x y G' e' hk ra rb => ?_) fun k a b x y G' e' hk ra rb _ => ?_)) fun v4 G4 H4 P4 x4 y4 r4 => ?_
  · obtain ⟨s, b, rfl⟩ := words_pair hd
    exact ⟨_, _, rfl⟩
  · obtain ⟨s, b', e1⟩ := words_pair (List.mem_of_getElem? hk)
    cases e1
    exact et_of (ed_var rfl rb)
  · exact ed_var rfl ra
  · rw [words_one hi] at r4
    refine d_when P4 (et_or (et_of' (ed_ne (ed_lenL (ed_var rfl r4)) ed_int (shaped_int _) (shaped_int _))) fun _ => et_not (et_of (ed_isErrT (ed_var rfl (r.up (x1.trans (x2.trans (x3.trans x4))))) ev_c ((x1.trans (x2.trans (x3.trans x4))) _ _ hG) (T.er.q i hi) (T.er.kitV i hi)))) (fun hb H5 P5 x5 => ?_) fun hb H5 P5 x5 => ?_
    · cases hb
    · exact d_retD (E := E) P5 (ed_ixL (ed_var rfl r4) ed_int rfl) q
theorem has_law_tried : Has P w K mg base "_law_tried" ["_law_deed", "_law_things"] (5 + 1) (spT P w base T.er 5) := by
  have nd : (["_law_deed", "_law_things", "_law_told", "_law_caught", "_law_e"] : List Str).Nodup := by decide +kernel
  refine has_ofG (N := ["_law_deed", "_law_things", "_law_told", "_law_caught", "_law_e"]) T.a__law_tried ⟨rfl, rfl, rfl, by decide +kernel, rfl, by decide +kernel, by decide +kernel⟩ (fun _ _ _ _ ⟨_, _, _, _, e, _⟩ => by rw [e]; rfl) fun cdv A outer s H vs Q E hr => ?_
  refine ⟨_, pss_cons (ps_set (i := 2) nd rfl (.inl rfl) pe_non)
    (pss_cons (ps_set (i := 3) nd rfl (.inl rfl) pe_non)
    (pss_cons (LmExc.ps_try_held (i := 4) (tb := fun W => tIfS (tTest (tOp (rEqD K) (tCB (rLenS K) (tCons (tVar 1) tNil)) (tC (.int 1))))
        (tAsg (tCallP P w K mg base 5 0 (WE W) (tCons (tOp (rIxL K) (tVar 1) (tC (.int 0))) tNil)) (gName 2))
        (tAsg (tCallP P w K mg base 5 0 (WE W) (tCons (tOp (rIxL K) (tVar 1) (tC (.int 0))) (tCons (tOp (rIxL K) (tVar 1) (tC (.int 1))) tNil))) (gName 2)))
        (ts := fun _ => tAsg (tVar 4) (gName 3)) rfl rfl rfl nd rfl rfl ⟨rfl, by decide, .inl T.er.gM⟩
        (fun W pn xe tk _ => pss_one (ps_if (pt_cmpR (op_eqD hr.units) (pe_callB call_len_seq (by rfl) T.b_len (by decide +kernel) (pa_cons (pv 1) pa_nil)) pe_int (nomark _))
          (pss_one (ps_set (i := 2) nd rfl (.inl rfl) (pe_callP hr (by rfl) (.inl rfl) (fun σ => passAt tk σ) (pa_cons (pe_ix ix_list (pv 1) pe_int (fun _ _ => rfl)) pa_nil))))
          (pss_one (ps_set (i := 2) nd rfl (.inl rfl) (pe_callP hr (by rfl) (.inl rfl) (fun σ => passAt tk σ) (pa_cons (pe_ix ix_list (pv 1) pe_int (fun _ _ => rfl)) (pa_cons (pe_ix ix_list (pv 1) pe_int (fun _ _ => rfl)) pa_nil)))))))
        (fun a pn => pss_one (ps_set (i := 3) nd rfl (.inl rfl) (pv 4))))
    (pss_cons (ps_if (pt_cmpR op_isN1 (pv 3) pe_non (nomark _)) (pss_one (ps_ret (pv 2))) pss_nil)
    (pss_one (ps_ret (pe_callH (has_law_word (P := P) (w := w) (base := base) T) (hr.mono (by decide)) (by rfl) passL (pa_cons (pv 3) pa_nil))))))), fun h => ?_⟩
  exact tried_end (by obtain ⟨_, _, _, _, rfl, _⟩ := h; rfl) h
theorem has_law_same : Has P w K mg base "_law_same" ["_law_found", "_law_due"] 1 (spO rLSame) := by
  have nd : (["_law_found", "_law_due", "_law_one"] : List Str).Nodup := by decide +kernel
  refine has_of (N := ["_law_found", "_law_due", "_law_one"]) T.a__law_same ⟨rfl, rfl, rfl, by decide +kernel, rfl, by decide +kernel, by decide +kernel⟩ (fun _ _ ⟨_, e, _⟩ => by rw [e]; rfl) fun cdv A outer s H vs Q E hr => ?_
  refine ⟨_, (pss_cons (ps_if (PW.pt (pw_or (pt_not (pt_val (pe_callB call_isi (by rfl) T.b_isinstance (by decide +kernel) (pa_cons (pv 0) (pa_cons (pe_bltn (v := .ty "tuple") (u := .type "tuple") (by rfl) T.b_tuple (by decide +kernel) rfl) pa_nil))))) (pw_or1 (pt_cmpR (op_neD hr.units) (pv 0) (pv 1) (nomark _))))) (pss_one (ps_ret pe_bl)) pss_nil)
    (pss_one (ps_ret (pe_cmpR (op_eqD hr.units) (pe_callB call_len_seq (by rfl) T.b_len (by decide +kernel) (pa_cons (pe_lc (own := [("_law_one", 2)]) (g := (gName 2)) (tt := (tOr (tNot (tB (tCB (rIsi K) (tCons (tVar 2) (tCons (tC (.ty "int")) tNil))))) (tB (tCB (rIsi K) (tCons (tVar 2) (tCons (tC (.ty "bool")) tNil)))))) (te := (tVar 2)) rfl nd (pi_tup (pv 0)) (blkOk_by (own := [("_law_one", 2)]) (N := ["_law_found", "_law_due", "_law_one"]) (sc := defScope (topS 41)) (by decide +kernel)) (fun _ _ _ _ _ => (pg_name (i := 2) nd rfl (Or.inl rfl) (Or.inr rfl))) (fun _ _ _ _ _ => (pts_one (PW.pt (pw_or (pt_not (pt_val (pe_callB call_isi (by rfl) T.b_isinstance (by decide +kernel) (pa_cons (pv 2) (pa_cons (pe_bltn (v := .ty "int") (u := .type "int") (by rfl) T.b_int (by decide +kernel) rfl) pa_nil))))) (pw_or1 (pt_val (pe_callB call_isi (by rfl) T.b_isinstance (by decide +kernel) (pa_cons (pv 2) (pa_cons (pe_bltn (v := .ty "bool") (u := .type "bool") (by rfl) T.b_bool (by decide +kernel) rfl) pa_nil))))))))) (fun _ _ _ _ _ => (pv 2))) pa_nil)) pe_int (nomark _))))), fun G ds o e rp h q => ?_⟩
  obtain ⟨ns, rfl, hz, rfl⟩ := h
  obtain ⟨v1, v2, rfl, r1, r2⟩ := two rp
  refine d_when (Part.refl e) (b := false) (et_is (et_or (a := false) (b := false) (et_is (et_not (et_of (ed_isInst (T := "tuple") (S := "tuple") (b := true) (ed_var rfl r1) ev_c rfl kit_tt))) rfl) fun _ =>
    et_is (et_of' (ed_ne (ed_var rfl r1) (ed_var rfl r2) (shaped_tup _) (shaped_tup _))) (by rw [eqv_tup]; rfl)) rfl) (fun hb => by cases hb) fun _ H1 P1 _ => ?_
  refine d_retD (E := E) P1 ((ed_eq (ed_lenL ((ed_lc (fun _ => false) (fun d => d) (ei_tup (ed_var rfl r1)) (by rw [List.length_map]; omega) (turn_name (fun _ => rfl) (fun i d x G' e' hi r' => ?_) fun i d x G' e' hi r' z => by cases z)).is (e := .list []) (lc_none _ _))) ed_int (shaped_int _) (shaped_int _)).is ?_) q
  · obtain ⟨k, _, rfl⟩ := List.mem_map.mp (List.mem_of_getElem? hi)
    exact et_is (et_or (a := false) (b := false) (et_is (et_not (et_of (ed_isInst (T := "int") (S := "int") (b := true) (ed_var rfl r') ev_c rfl kit_ii))) rfl) fun _ => et_of (ed_isInst (T := "int") (S := "bool") (b := false) (ed_var rfl r') ev_c rfl kit_ib)) rfl
  · rfl
end
end K10

set_option maxHeartbeats 4000000
namespace K10
open PySem PySem.Spec PyProof.Rows L2 Evl Lm
section
variable {P : Program} {w : World} {K : PySem.W.Frag} {mg : Str → Option Value} {base : Heap} (T : Txt K mg)
include T
theorem has_law_moved : Has P w K mg base "_law_moved" ["_law_row_here", "_law_many"] 7 (spO rLMovedK) := by
  have nd : (["_law_row_here", "_law_many", "_law_place_here"] : List Str).Nodup := by decide +kernel
  refine has_of (N := ["_law_row_here", "_law_many", "_law_place_here"]) T.a__law_moved ⟨rfl, rfl, rfl, by decide +kernel, rfl, by decide +kernel, by decide +kernel⟩ (fun _ _ ⟨_, _, e, _⟩ => by rw [e]; rfl) fun cdv A outer s H vs Q E hr => ?_
  refine ⟨_, (pss_cons (ps_if (PW.pt (pw_and (pt_cmpR (op_neD hr.units) (pv 0) (pe_tup pa_nil) (nomark _)) (pw_and1 (pt_cmpR op_gt (pe_op op_add (pe_ix ix_tup (pv 0) (pe_un un_neg pe_int) (fun _ _ => rfl)) (pv 1)) pe_int (nomark _))))) (pss_one (ps_ret (pe_cmpR (op_eqD hr.units) (pe_callH (has_law_tried (P := P) (w := w) (base := base) T) (hr.mono (by decide)) (by rfl) passL (pa_cons (pe_glob (v := .ref T.f_moved) (by rfl) T.a_moved.g rfl) (pa_cons (pe_lst (pa_cons (pv 0) (pa_cons (pv 1) pa_nil))) pa_nil))) pe_str (nomark _)))) pss_nil)
    (pss_one (ps_ret (pe_callH (has_law_same (P := P) (w := w) (base := base) T) (hr.mono (by decide)) (by rfl) passL (pa_cons (pe_callH (has_moved (P := P) (w := w) (base := base) T).has (hr.mono (by decide)) (by rfl) passL (pa_cons (pv 0) (pa_cons (pv 1) pa_nil))) (pa_cons (pe_tupleOf (by rfl) T.b_tuple (pe_lc (own := [("_law_place_here", 2)]) (g := (gName 2)) (tt := tYes) (te := (tOp (rI0 fun i j => .int (i + j)) (tVar 2) (tVar 1))) rfl nd (pi_tup (pv 0)) (blkOk_by (own := [("_law_place_here", 2)]) (N := ["_law_row_here", "_law_many", "_law_place_here"]) (sc := defScope (topS 42)) (by decide +kernel)) (fun _ _ _ _ _ => (pg_name (i := 2) nd rfl (Or.inl rfl) (Or.inr rfl))) (fun _ _ _ _ _ => pts_nil) (fun _ _ _ _ _ => (pe_op op_add (pv 2) (pv 1))))) pa_nil)))))), fun G ds o e rp h q => ?_⟩
  obtain ⟨n, p, rfl, hn, p0, p1, rfl⟩ := h
  obtain ⟨v1, v2, rfl, r1, r2⟩ := two rp
  cases r2
  have hl := row_len n
  have FS := (has_moved (P := P) (w := w) (base := base) T).fnr (j := 5) T.a_moved.g (by decide)
  have hf : ∀ (f : Addr) {σ : L2.St} {G' : Hp}, EvD (tC (.ref f)) σ G' (opq f) := fun f {σ G'} H x Q q => q _ _ H (Part.refl x) (.obj _)
  refine d_when (Part.refl e) (b := decide (rowI n ≠ [] ∧ 99 < (rowI n).getLastD 0 + p)) (et_is (et_and (a := !decide (rowI n = [])) (b := decide (99 < (rowI n).getLastD 0 + p)) (et_of' ((ed_ne (ed_var rfl r1) (ed_tup (ds := ([] : List Int).map .int) ea_nil (by decide)) (shaped_tup _) (shaped_tup _)).is (by unfold rowD; rw [eqv_tup2]))) fun ha => ?_) ?_) (fun hb H2 P2 _ => ?_) fun hb H2 P2 _ => ?_
  · have hne : rowI n ≠ [] := by simpa using ha
    have hl0 : 0 < (rowI n).length := List.length_pos_iff.mpr hne
    refine et_of' (ed_0B (ed_0I (ed_ixT (i := -1) (d := .int ((rowI n).getLastD 0)) (ed_var rfl r1) (ed_neg ed_int) ?_) (ed_var rfl (.int p))) ed_int)
    rw [atI_neg (j := (rowI n).length - 1) (by decide) (by rw [List.length_map]; omega), List.getElem?_map, ← List.getLast?_eq_getElem?, List.getLast?_eq_some_getLast hne, List.getLastD_eq_getLast?, List.getLast?_eq_some_getLast hne]
    rfl
  · by_cases z : rowI n = []
    · rw [decide_eq_true z, decide_eq_false (fun y : rowI n ≠ [] ∧ 99 < (rowI n).getLastD 0 + p => y.1 z)]
      rfl
    · rw [decide_eq_false z, Bool.eq_iff_iff]
      simp [z]
  · have hc := of_decide_eq_true hb
    refine d_retD (E := E) P2 ((ed_eq (ed_triedV2 (R := T.er) (hf _) (ed_lst (ea_cons (ed_var rfl r1) (ea_cons (ed_var rfl (.int p)) ea_nil)) (by show 2 ≤ 100000; decide)) (.inr rfl) rfl FS T.a_moved.kp (.inr ⟨n, p, rfl, hn, rfl⟩) (d := .str (errName 3)) (by
      unfold movedO
      rw [if_pos hc]
      exact ⟨3, by decide, rfl, rfl⟩)) (ed_str (b := "TooGreat")) (shaped_err (k := 3) (by decide)) (shaped_err (k := 3) (by decide))).is ?_) q
    rw [show PyData.eqv (.str (errName 3)) (.str "TooGreat") = true from eqv_err (k := 3) (by decide)]
  · have hc := of_decide_eq_false hb
    have hfit : Fits n p := by
      by_cases z : rowI n = []
      · exact .inl z
      · refine .inr ?_
        have : ¬ 99 < (rowI n).getLastD 0 + p := fun y => hc ⟨z, y⟩
        omega
    refine d_retD (E := E) P2 (ed_call (d := .bool true) (ea_cons (ed_call (d := .tuple ((upI p (rowI n)).map .int)) (ea_cons (ed_var rfl r1) (ea_cons (ed_var rfl (.int p)) ea_nil)) (.inr ⟨n, p, rfl, hn, (moved_fits hfit).symm⟩)) (ea_cons (ed_tupleL (ds := (upI p (rowI n)).map .int) ((ed_lc (fun _ => true) (fun d => .int (toI d + p)) (ei_tup (ed_var rfl r1)) (by rw [List.length_map]; omega) (turn_name (fun _ => rfl) (fun _ _ _ _ _ _ _ => et_yes) fun i d x G' e' hi r _ => ?_)).is ?_)) ea_nil)) ⟨upI p (rowI n), rfl, by rw [up_len]; omega, rfl⟩) q
    · obtain ⟨m, _, rfl⟩ := List.mem_map.mp (List.mem_of_getElem? hi)
      exact ed_0I (ed_var rfl r) (ed_var rfl (.int p))
    · rw [lcD_all]
      unfold upI
      rw [List.map_map, List.map_map]
      rfl
theorem has_law_is_share : Has P w K mg base "_law_is_share" ["_law_number"] 6 (spO rLShare) := by
  have nd : (["_law_number", "_law_a", "_law_b"] : List Str).Nodup := by decide +kernel
  refine has_of (N := ["_law_number", "_law_a", "_law_b"]) T.a__law_is_share ⟨rfl, rfl, rfl, by decide +kernel, rfl, by decide +kernel, by decide +kernel⟩ (fun _ _ ⟨_, e, _⟩ => by rw [e]; rfl) fun cdv A outer s H vs Q E hr => ?_
  refine ⟨_, (pss_cons (ps_set (i := 1) nd rfl (.inl rfl) (pe_op op_add (pv 0) pe_int))
    (pss_cons (ps_set (i := 2) nd rfl (.inl rfl) (pe_op op_add (pe_callH (has_law_worth (P := P) (w := w) (base := base) T) (hr.mono (by decide)) (by rfl) passL (pa_cons (pe_callV (has_moved (P := P) (w := w) (base := base) T) (hr.mono (by decide)) (by rfl) passL (pa_cons (pe_callH (has_law_row (P := P) (w := w) (base := base) T) (hr.mono (by decide)) (by rfl) passL (pa_cons (pv 0) pa_nil)) pa_nil)) pa_nil)) pe_int))
    (pss_one (ps_ret (pe_and (pe_cmpR op_lt (pe_op op_mulW (pv 2) (pv 2)) (pe_op op_add (pe_op op_mulW (pv 2) (pv 1)) (pe_op op_mulW (pv 1) (pv 1))) (nomark _)) (pe_one (pe_cmpR op_gt (pe_op op_mulW (pe_op op_add (pv 2) pe_int) (pe_op op_add (pv 2) pe_int)) (pe_op op_add (pe_op op_mulW (pe_op op_add (pv 2) pe_int) (pv 1)) (pe_op op_mulW (pv 1) (pv 1))) (nomark _)))))))), fun G ds o e rp h q => ?_⟩
  obtain ⟨n, rfl, hn, h99, rfl⟩ := h
  obtain ⟨v, rfl, r⟩ := one rp
  cases r
  have hl := row_len n
  have hf := fits_below (p := 1) hn h99 (by decide)
  obtain ⟨u1, u2, u3⟩ := up_row hn hf (by decide)
  have sh := share (row_loose hn.2) (fun x hx => row_in x hx) (by rw [worth_row hn]; exact hn.1) (worth_nn _)
  rw [worth_row hn] at sh
  have hb : worthI (upI 1 (rowI n)) = upN n 1 := rfl
  rw [hb] at sh
  have b1 : fw 100 < 2 ^ 70 - 5 := by rw [fw100]; decide
  have hu := u1.1
  have hv := u1.2
  have n0 := hn.1
  have n1 := hn.2
  refine d_asgS (Part.refl e) (d := .int (n + 1)) (ed_0I (ed_var rfl (.int _)) ed_int) rfl fun H1 P1 x1 => ?_
  refine d_asgS P1 (d := .int (upN n 1 + 1)) (ed_0I (ed_call (ea_cons (ed_callV (dv := .int 1) (ea_cons (ed_call (ea_cons (ed_var rfl (.int _)) ea_nil) ⟨n, rfl, rfl⟩) ea_nil) rfl (.inr ⟨n, 1, rfl, hn, (moved_fits hf).symm⟩)) ea_nil) ⟨upI 1 (rowI n), rfl, by rw [up_len]; omega, fun x hx => by have := up_in hf (by decide) x hx; omega, rfl⟩) ed_int) rfl fun H2 P2 x2 => ?_
  generalize upN n 1 = S at *
  have va : ∀ {G' : Hp}, EvD (tVar 1) [some (.int n), some (.int (n + 1)), some (.int (S + 1))] G' (.int (n + 1)) := ed_var rfl (.int _)
  have vb : ∀ {G' : Hp}, EvD (tVar 2) [some (.int n), some (.int (n + 1)), some (.int (S + 1))] G' (.int (S + 1)) := ed_var rfl (.int _)
  have mw : ∀ {G' : Hp} {ta tb : TE} {σ : L2.St} {i j : Int}, EvD ta σ G' (.int i) → EvD tb σ G' (.int j) → 0 ≤ i → i < 2 ^ 70 → 0 ≤ j → j < 2 ^ 70 → EvD (tOp (rI CMulW fun i j => .int (i * j)) ta tb) σ G' (.int (i * j)) := fun h1 h2 a b c d => ed_iI (C := CMulW) (g := fun i j => i * j) h1 h2 (wide70 a b c d)
  refine d_retD (E := E) P2 ((ed_andV (a := true) (b := true) ((ed_0B (g := fun i j => decide (i < j)) (mw vb vb (by omega) (by omega) (by omega) (by omega)) (ed_0I (g := fun i j => i + j) (mw vb va (by omega) (by omega) (by omega) (by omega)) (mw va va (by omega) (by omega) (by omega) (by omega)))).is (congrArg PyData.bool (decide_eq_true sh.1))) fun _ =>
    (ed_0B (g := fun i j => decide (j < i)) (mw (ed_0I (g := fun i j => i + j) vb (ed_int (i := 1))) (ed_0I (g := fun i j => i + j) vb (ed_int (i := 1))) (by omega) (by omega) (by omega) (by omega)) (ed_0I (g := fun i j => i + j) (mw (ed_0I (g := fun i j => i + j) vb (ed_int (i := 1))) va (by omega) (by omega) (by omega) (by omega)) (mw va va (by omega) (by omega) (by omega) (by omega)))).is (congrArg PyData.bool (decide_eq_true sh.2))).is rfl) q
theorem has_law_opened : Has P w K mg base "_law_opened" ["_law_pile_here", "_law_k"] 7 (spO rLOpened) := by
  have nd : (["_law_pile_here", "_law_k", "_law_told", "_law_left", "_law_due"] : List Str).Nodup := by decide +kernel
  refine has_of (N := ["_law_pile_here", "_law_k", "_law_told", "_law_left", "_law_due"]) T.a__law_opened ⟨rfl, rfl, rfl, by decide +kernel, rfl, by decide +kernel, by decide +kernel⟩ (fun _ _ ⟨_, _, e, _⟩ => by rw [e]; rfl) fun cdv A outer s H vs Q E hr => ?_
  refine ⟨_, (pss_cons (ps_set (i := 2) nd rfl (.inl rfl) (pe_callH (has_law_tried (P := P) (w := w) (base := base) T) (hr.mono (by decide)) (by rfl) passL (pa_cons (pe_glob (v := .ref T.f_opened) (by rfl) T.a_opened.g rfl) (pa_cons (pe_lst (pa_cons (pv 0) (pa_cons (pv 1) pa_nil))) pa_nil))))
    (pss_cons (ps_if (PW.pt (pw_or (pt_cmpR (op_eqD hr.units) (pv 1) pe_int (nomark _)) (pw_or1 (pt_cmpR op_notIn_seq (pv 1) (pv 0) (by rfl))))) (pss_one (ps_ret (pe_cmpR (op_eqD hr.units) (pv 2) pe_str (nomark _)))) pss_nil)
    (pss_cons (ps_set (i := 3) nd rfl (.inl rfl) (pe_callTy call_list_of (by rfl) T.b_list (by decide +kernel) (pa_cons (pv 0) pa_nil)))
    (pss_cons (ps_expr (pe_bm PySem.F.plainAttrs_list PySem.F.slot_list_remove PySem.F.type_list_remove mt_remove (pv 3) (pa_cons (pv 1) pa_nil)))
    (pss_cons (ps_set (i := 4) nd rfl (.inl rfl) (pe_tupleOf (by rfl) T.b_tuple (pe_callB cr_sortedI (by rfl) T.b_sorted (by decide +kernel) (pa_cons (pe_op op_cat (pv 3) (pe_lst (pa_cons (pe_op op_sub (pv 1) pe_int) (pa_cons (pe_callB (call_max2 rfl) (by rfl) T.b_max (by decide +kernel) (pa_cons pe_int (pa_cons (pe_op op_sub (pv 1) pe_int) pa_nil))) pa_nil)))) pa_nil))))
    (pss_cons (ps_if (PW.pt (pw_or (pt_not (pt_val (pe_callH (has_law_same (P := P) (w := w) (base := base) T) (hr.mono (by decide)) (by rfl) passL (pa_cons (pv 2) (pa_cons (pv 4) pa_nil))))) (pw_or1 (pt_cmpR (op_neD hr.units) (pe_callH (has_law_worth (P := P) (w := w) (base := base) T) (hr.mono (by decide)) (by rfl) passL (pa_cons (pv 2) pa_nil)) (pe_callH (has_law_worth (P := P) (w := w) (base := base) T) (hr.mono (by decide)) (by rfl) passL (pa_cons (pv 0) pa_nil)) (nomark _))))) (pss_one (ps_ret pe_bl)) pss_nil)
    (pss_one (ps_ret (pe_cmpR (op_eqD hr.units) (pe_callH (has_done (P := P) (w := w) (base := base) T) (hr.mono (by decide)) (by rfl) passL (pa_cons (pv 2) (pa_cons (pe_ix ix_list (pe_lst (pa_cons (pe_tup (pa_cons pe_str (pa_cons (pe_op op_sub (pv 1) pe_int) pa_nil))) (pa_cons (pe_tup (pa_cons pe_str (pa_cons pe_int pa_nil))) pa_nil))) (pe_callTy call_int1 (by rfl) T.b_int (by decide +kernel) (pa_cons (pe_cmpR (op_eqD hr.units) (pv 1) pe_int (nomark _)) pa_nil)) (fun _ _ => rfl)) pa_nil))) (pv 0) (nomark _)))))))))), fun G ds o e rp h q => ?_⟩
  obtain ⟨ns, k, rfl, hp, hz, k0, k1, rfl⟩ := h
  obtain ⟨v1, v2, rfl, r1, r2⟩ := two rp
  cases r2
  have hi := pile_in hp
  have hr := pile_rise hp
  have FS := (has_opened (P := P) (w := w) (base := base) T).fnr (j := 5) T.a_opened.g (by decide)
  have hf : ∀ (f : Addr) {σ : L2.St} {G' : Hp}, EvD (tC (.ref f)) σ G' (opq f) := fun f {σ G'} H x Q q => q _ _ H (Part.refl x) (.obj _)
  refine d_asg (Part.refl e) (d := if 0 < k ∧ k ∈ ns then .tuple ((openI ns k).map .int) else .str (errName 2)) (ed_tried (hf _) (ed_lst (ea_cons (ed_var rfl r1) (ea_cons (ed_var rfl (.int k)) ea_nil)) (by show 2 ≤ 100000; decide)) (.inr rfl) FS T.a_opened.kp (.inr ⟨ns, k, rfl, hp, rfl⟩) (by
    unfold openO
    split
    · exact rfl
    · exact ⟨2, by decide, rfl, rfl⟩)) fun v3 G3 H3 P3 x3 y3 r3 => ?_
  refine d_when P3 (b := !decide (0 < k ∧ k ∈ ns)) (et_is (et_or (a := decide (k = 0)) (b := !decide (k ∈ ns)) (et_of' ((ed_eq (ed_var rfl (.int k)) ed_int (shaped_int _) (shaped_int _)).is (by rw [eqv_intI]))) fun _ => et_of' (ed_notInIntT (ed_var rfl (.int k)) (ed_var rfl (r1.up x3)))) ?_) (fun hb H4 P4 _ => ?_) fun hb H4 P4 _ => ?_
  · by_cases z : k ∈ ns
    · by_cases y : k = 0
      · rw [decide_eq_true y, decide_eq_false (fun x : 0 < k ∧ k ∈ ns => by omega), Bool.true_or]
        rfl
      · rw [decide_eq_false y, decide_eq_true z, decide_eq_true (⟨by omega, z⟩ : 0 < k ∧ k ∈ ns)]
        rfl
    · rw [decide_eq_false z, decide_eq_false (fun y : 0 < k ∧ k ∈ ns => z y.2), Bool.not_false, Bool.or_true]
  · have hn : ¬ (0 < k ∧ k ∈ ns) := fun z => by rw [decide_eq_true z] at hb; cases hb
    rw [if_neg hn] at r3
    refine d_retD (E := E) P4 ((ed_eq (ed_var rfl r3) (ed_str (b := "NoMove")) (shaped_err (k := 2) (by decide)) (shaped_err (k := 2) (by decide))).is ?_) q
    rw [show PyData.eqv (.str (errName 2)) (.str "NoMove") = true from eqv_err (k := 2) (by decide)]
  · have hn : 0 < k ∧ k ∈ ns := by
          by_cases z : 0 < k ∧ k ∈ ns
          · exact z
          · rw [decide_eq_false z] at hb
            cases hb
    rw [if_pos hn] at r3
    have hol := open_len hn.2
    have hoi := open_in hi hn.1 hn.2
    have hop := open_pile hi (by omega) hn.1 hn.2
    have how := open_worth hn.1 hn.2
    obtain ⟨hb1, hb2⟩ := open_back hr hi hn.1 hn.2
    obtain ⟨ht1, ht2⟩ := top_cl hn.1
    refine d_listT P4 (ed_var rfl (r1.up x3)) fun l H5 n5 e5 P5 gl hl => ?_
    refine s_rem e5 (ev_var rfl) (ev_var rfl) hn.2 fun H6 x6 => ?_
    have P7 : Part G H G3 (upd H6 l (.lst ((ns.erase k).map V.int))) := (P5.on x6).mut gl hl
    have P8 := P7.take gl hl upd_same
    have u8 : Ex G3 (upd G3 l (.lst ((ns.erase k).map V.int))) := Ex.new gl
    have r1' := r1.up (x3.trans u8)
    have r3' := r3.up u8
    have el := erase_len ns k
    have dsum : EvD (tOp rCat (tVar 3) (tLst (tCons (tOp (rI0 fun i j => .int (i - j)) (tVar 1) (tC (.int 1))) (tCons (tCB (fun xs H Q => ∃ i j, xs = [V.int i, V.int j] ∧ Q (V.int (if j > i then j else i)) H) (tCons (tC (.int 0)) (tCons (tOp (rI0 fun i j => .int (i - j)) (tVar 1) (tC (.int 2))) tNil))) tNil)))) [some v1, some (.int k), some v3, some (.ref l), none] (upd G3 l (.lst ((ns.erase k).map V.int))) (.list ((ns.erase k ++ [k - 1, if k - 2 > 0 then k - 2 else 0]).map .int)) := by
      refine (ed_catL (ds := (ns.erase k).map .int) (es := [.int (k - 1), .int (if k - 2 > 0 then k - 2 else 0)]) (ed_var rfl (.lst upd_same (RpA.ofInts _))) (ed_lst (ea_cons (ed_0I (g := fun i j => i - j) (ed_var rfl (.int k)) (ed_int (i := 1))) (ea_cons (ed_max2 (ed_int (i := 0)) (ed_0I (g := fun i j => i - j) (ed_var rfl (.int k)) (ed_int (i := 2)))) ea_nil)) (by show 2 ≤ 100000; decide)) (by rw [List.length_map]; show (ns.erase k).length + 2 ≤ 100000; omega)).is ?_
      rw [List.map_append]
      rfl
    refine d_asg P8 (d := .tuple ((openI ns k).map .int)) (ed_tupleL (ed_sorted dsum fun ks k1 k2 => srt_one (k1.trans (open_due ns hn.1)) k2)) fun v5 G9 H9 P9 x9 y9 r5 => ?_
    have r1'' := r1'.up x9
    have r3'' := r3'.up x9
    have wo : ∀ {σ : L2.St} {ta : TE} {ms : List Int}, EvD ta σ G9 (.tuple (ms.map .int)) → ms.length ≤ 1000 → (∀ n ∈ ms, 0 ≤ n ∧ n ≤ 99) → EvD (tCall (spO rLWorth) [] E0 (tCons ta tNil)) σ G9 (.int (worthI ms)) := fun {σ ta ms} h hz hi => ed_call (ea_cons h ea_nil) ⟨ms, rfl, hz, fun n hn => by have := hi n hn; omega, rfl⟩
    refine d_when P9 (b := false) (et_is (et_or (a := false) (b := false) (et_is (et_not (et_of (ed_call (d := .bool true) (ea_cons (ed_var rfl r3'') (ea_cons (ed_var rfl r5) ea_nil)) ⟨openI ns k, rfl, by omega, rfl⟩))) rfl) fun _ => et_is (et_of' (ed_ne (wo (ed_var rfl r3'') (by omega) hoi) (wo (ed_var rfl r1'') (by omega) hi) (shaped_int _) (shaped_int _))) (by rw [how, eqv_int]; rfl)) rfl) (fun hb => by cases hb) fun _ H10 P10 _ => ?_
    have hix : atI [mvD (true, k - 2), mvD (false, 0)] (if decide (k = 1) = true then 1 else 0) = some (mvD (clI k)) := by
      unfold clI
      by_cases z : k = 1
      · rw [if_pos z, if_pos (decide_eq_true z)]
        rfl
      · rw [if_neg z, if_neg (by rw [decide_eq_false z]; decide)]
        rfl
    have hle : (clI k).2 ≤ 99 := by
      unfold clI
      by_cases z : k = 1
      · rw [if_pos z]
        decide
      · rw [if_neg z]
        show k - 2 ≤ 99
        omega
    have hdo : Out.val (.tuple (ns.map .int)) = doneO (T.er.c 2) (T.er.c 3) (openI ns k) (clI k) := by
      unfold doneO
      rw [if_pos hb1, if_neg (by rw [ht1]; omega), hb2]
    exact d_retD (E := E) P10 ((ed_eq (d := .tuple (ns.map .int)) (ed_call (ea_cons (ed_var rfl r3'') (ea_cons (ed_ixL (d := mvD (clI k)) (i := if decide (k = 1) = true then 1 else 0) (ed_lst (ds := [mvD (true, k - 2), mvD (false, 0)]) (ea_cons (ed_tup (ds := [.str "join", .int (k - 2)]) (ea_cons ed_str (ea_cons (ed_0I (g := fun i j => i - j) (ed_var rfl (.int k)) (ed_int (i := 2))) ea_nil)) (by show 2 ≤ 100000; decide)) (ea_cons (ed_tup (ds := [.str "part", .int 0]) (ea_cons ed_str (ea_cons ed_int ea_nil)) (by show 2 ≤ 100000; decide)) ea_nil)) (by show 2 ≤ 100000; decide)) (ed_intB ((ed_eq (ed_var rfl (.int k)) ed_int (shaped_int _) (shaped_int _)).is (by rw [eqv_intI]))) hix) ea_nil)) (.inr (.inr ⟨openI ns k, clI k, rfl, hop, by omega, ht2, hle, hdo⟩))) (ed_var rfl r1'') (shaped_tup _) (shaped_tup _)).is (by rw [eqv_tup])) q
end
end K10

set_option maxHeartbeats 4000000
namespace K10
open PySem PySem.Spec PyProof.Rows L2 Evl Lm
section
variable {P : Program} {w : World} {K : PySem.W.Frag} {mg : Str → Option Value} {base : Heap} (T : Txt K mg)
include T
theorem ok_law {fd : FuncData} (F : Fun K "law" "law" (topS 45) T.f_law fd) : FnOk P w K mg base (L2.CX P w) 8 T.f_law fd ["_law_script"] (spLaw K) := by
  have nd : (["_law_script", "_law_each", "_law_pile_here", "_law_k", "_law_cell", "_law_number", "_law_one", "_law_row_here"] : List Str).Nodup := by decide +kernel
  refine F.okX (N := ["_law_script", "_law_each", "_law_pile_here", "_law_k", "_law_cell", "_law_number", "_law_one", "_law_row_here"]) ⟨rfl, rfl, rfl, by decide +kernel, rfl, by decide +kernel, by decide +kernel⟩ (fun vs H Q E ⟨a, ns, e, _⟩ => by rw [e]; rfl) fun cdv A outer s H vs Q E hr hsp => ?_
  refine ⟨_, (pss_cons (ps_set (i := 1) nd rfl (.inl rfl) (pe_callH0 (has_law_worths (P := P) (w := w) (base := base) T) (hr.mono (by decide)) (by rfl) passL))
    (pss_cons (ps_set (i := 2) nd rfl (.inl rfl) (pe_callH (has_law_pile (P := P) (w := w) (base := base) T) (hr.mono (by decide)) (by rfl) passL (pa_cons (pv 0) (pa_cons pe_int (pa_cons pe_int pa_nil)))))
    (pss_cons (ps_for (passes_of rfl) rfl (pi_enum (by rfl) T.b_enumerate (pa_cons (pv 0) pa_nil)) (pg_tup rfl (pgs_cons (pg_name (i := 3) nd rfl (Or.inl rfl) (Or.inr rfl)) (pgs_cons (pg_name (i := 4) nd rfl (Or.inl rfl) (Or.inr rfl)) pgs_nil))) (pss_cons (ps_set (i := 5) nd rfl (.inl rfl) (pe_callH (has_law_mix (P := P) (w := w) (base := base) T) (hr.mono (by decide)) (by rfl) passL (pa_cons (pv 4) (pa_cons (pe_op op_add pe_int (pv 3)) pa_nil))))
    (pss_cons (ps_set (i := 6) nd rfl (.inl rfl) (pe_op op_mod (pe_op op_mul (pe_op op_mul (pv 5) pe_int) pe_int) (pe_ix ix_list (pe_lst (pa_cons (pe_ix ix_list (pv 1) pe_int (fun _ _ => rfl)) (pa_cons (pe_ix ix_list (pv 1) pe_int (fun _ _ => rfl)) (pa_cons pe_int (pa_cons (pe_ix ix_list (pv 1) pe_int (fun _ _ => rfl)) pa_nil))))) (pe_op op_mod (pv 5) pe_int) (fun _ _ => rfl))))
    (pss_cons (ps_set (i := 7) nd rfl (.inl rfl) (pe_callH (has_law_row (P := P) (w := w) (base := base) T) (hr.mono (by decide)) (by rfl) passL (pa_cons (pv 6) pa_nil)))
    (pss_cons (ps_if (PW.pt (pw_or (pt_not (pt_val (pe_callH (has_law_moved (P := P) (w := w) (base := base) T) (hr.mono (by decide)) (by rfl) passL (pa_cons (pv 7) (pa_cons (pe_op op_mod (pe_op op_fdiv (pv 5) pe_int) pe_int) pa_nil))))) (pw_or1 (pt_not (pt_val (pe_callH (has_law_moved (P := P) (w := w) (base := base) T) (hr.mono (by decide)) (by rfl) passL (pa_cons (pv 7) (pa_cons (pe_op op_mod (pe_op op_fdiv (pv 5) pe_int) pe_int) pa_nil)))))))) (pss_one (ps_ret pe_bl)) pss_nil)
    (pss_cons (ps_if (PW.pt (pw_and (pt_cmpR op_lt (pv 6) (pe_ix ix_list (pv 1) pe_int (fun _ _ => rfl)) (nomark _)) (pw_and1 (pt_not (pt_val (pe_callH (has_law_is_share (P := P) (w := w) (base := base) T) (hr.mono (by decide)) (by rfl) passL (pa_cons (pv 6) pa_nil))))))) (pss_one (ps_ret pe_bl)) pss_nil)
    (pss_cons (ps_if (PW.pt (pw_or (PW.pt (pw_and (pt_cmpR op_lt (pv 6) (pe_ix ix_list (pv 1) pe_int (fun _ _ => rfl)) (nomark _)) (pw_and1 (pt_cmpR (op_neD hr.units) (pe_callH (has_moved (P := P) (w := w) (base := base) T).has (hr.mono (by decide)) (by rfl) passL (pa_cons (pv 7) (pa_cons pe_int pa_nil))) (pe_callV (has_moved (P := P) (w := w) (base := base) T) (hr.mono (by decide)) (by rfl) passL (pa_cons (pe_callV (has_moved (P := P) (w := w) (base := base) T) (hr.mono (by decide)) (by rfl) passL (pa_cons (pv 7) pa_nil)) pa_nil)) (nomark _))))) (pw_or1 (pt_cmpR (op_neD hr.units) (pe_callH (has_moved (P := P) (w := w) (base := base) T).has (hr.mono (by decide)) (by rfl) passL (pa_cons (pv 7) (pa_cons pe_int pa_nil))) (pv 7) (nomark _))))) (pss_one (ps_ret pe_bl)) pss_nil)
    (pss_one (ps_if (PW.pt (pw_or (pt_not (pt_val (pe_callH (has_law_opened (P := P) (w := w) (base := base) T) (hr.mono (by decide)) (by rfl) passL (pa_cons (pv 2) (pa_cons (pe_callH (has_law_place (P := P) (w := w) (base := base) T) (hr.mono (by decide)) (by rfl) passL (pa_cons (pv 5) pa_nil)) pa_nil))))) (pw_or1 (pt_not (pt_val (pe_callH (has_law_opened (P := P) (w := w) (base := base) T) (hr.mono (by decide)) (by rfl) passL (pa_cons (pv 2) (pa_cons (pe_ix ix_tup (pv 2) (pe_op op_mod (pv 5) (pe_callB call_len_seq (by rfl) T.b_len (by decide +kernel) (pa_cons (pv 2) pa_nil))) (fun _ _ => rfl)) pa_nil)))))))) (pss_one (ps_ret pe_bl)) pss_nil)))))))))
    (pss_cons (ps_if (PW.pt (pw_or (pt_cmpR (op_neD hr.units) (pe_callH (has_law_tried (P := P) (w := w) (base := base) T) (hr.mono (by decide)) (by rfl) passL (pa_cons (pe_glob (v := .ref T.f_moved) (by rfl) T.a_moved.g rfl) (pa_cons (pe_lst (pa_cons (pe_tup (pa_cons pe_int pa_nil)) pa_nil)) pa_nil))) pe_str (nomark _)) (pw_or1 (pt_cmpR (op_neD hr.units) (pe_callH (has_law_tried (P := P) (w := w) (base := base) T) (hr.mono (by decide)) (by rfl) passL (pa_cons (pe_glob (v := .ref T.f_moved) (by rfl) T.a_moved.g rfl) (pa_cons (pe_lst (pa_cons (pe_tup (pa_cons pe_int (pa_cons pe_int pa_nil))) pa_nil)) pa_nil))) pe_str (nomark _))))) (pss_one (ps_ret pe_bl)) pss_nil)
    (pss_cons (ps_if (PW.pt (pw_or (pt_cmpR (op_neD hr.units) (pe_callH (has_law_tried (P := P) (w := w) (base := base) T) (hr.mono (by decide)) (by rfl) passL (pa_cons (pe_glob (v := .ref T.f_opened) (by rfl) T.a_opened.g rfl) (pa_cons (pe_lst (pa_cons (pe_tup (pa_cons pe_int (pa_cons pe_int pa_nil))) (pa_cons pe_int pa_nil))) pa_nil))) pe_str (nomark _)) (pw_or (pt_not (pt_val (pe_callH (has_law_opened (P := P) (w := w) (base := base) T) (hr.mono (by decide)) (by rfl) passL (pa_cons (pe_tup (pa_cons pe_int (pa_cons pe_int (pa_cons pe_int (pa_cons pe_int pa_nil))))) (pa_cons pe_int pa_nil))))) (pw_or1 (pt_not (pt_val (pe_callH (has_law_opened (P := P) (w := w) (base := base) T) (hr.mono (by decide)) (by rfl) passL (pa_cons (pe_tup (pa_cons pe_int pa_nil)) (pa_cons pe_int pa_nil))))))))) (pss_one (ps_ret pe_bl)) pss_nil)
    (pss_one (ps_ret (pe_and (pe_cmpR (op_eqD hr.units) (pe_callH (has_moved (P := P) (w := w) (base := base) T).has (hr.mono (by decide)) (by rfl) passL (pa_cons (pe_tup pa_nil) (pa_cons pe_int pa_nil))) (pe_tup pa_nil) (nomark _)) (pe_one (pe_cmpR (op_eqD hr.units) (pe_callV (has_moved (P := P) (w := w) (base := base) T) (hr.mono (by decide)) (by rfl) passL (pa_cons (pe_tup pa_nil) pa_nil)) (pe_tup pa_nil) (nomark _))))))))))), ?_⟩
  obtain ⟨a, ns, rfl, hS, hz, q0⟩ := hsp
  have q : Want (.val (.bool true)) H H Q E := fun v G' H' P' r => by cases r; exact q0 H'
  refine d_asg (G0 := H) (G := H) (Part.refl (Ex.refl H)) (d := .list ((fws 101).map .int)) (ed_call ea_nil ⟨rfl, rfl⟩) fun v1 G1 H1 P1 x1 y1 r1 => ?_
  refine d_asg P1 (ed_callH (ds := [opq a, .int (0 : Nat), .int (60 : Nat)]) (d := .tuple ((pileS ns 0 60).map .int)) (ea_cons (ed_var rfl (.obj a)) (ea_cons ed_int (ea_cons ed_int ea_nil))) fun G' e' => ⟨a, ns, 0, 60, rfl, ex_l (x1.trans e') hS, by omega, by decide, by decide, rfl⟩) fun v2 G2 H2 P2 x2 y2 r2 => ?_
  have hp : pileI (pileS ns 0 60) = true := pileS_pile (by omega)
  have pl := pileS_len ns 0 60
  have pn : 0 < ns.length → 0 < (pileS ns 0 60).length := fun h => by
    unfold pileS
    rw [srt_len, draw_len]
    unfold cutI
    rw [List.length_take, List.length_drop]
    omega
  generalize pileS ns 0 60 = p at hp pl pn r2
  have hin := pile_in hp
  have r1' := r1.up x2
  have w_ : ∀ {σ : L2.St} {G' : Hp} {j : Nat}, Ex G2 G' → j < 101 → σ[1]? = some (some v1) → EvD (tOp (rIxL K) (tVar 1) (tC (.int (j : Nat)))) σ G' (.int (fw j)) := fun {σ G' j} e hj h => by
    refine ed_ixL (i := (j : Nat)) (ed_var h (r1'.up e)) ed_int ?_
    rw [atI_pos (by omega), Int.toNat_natCast, List.getElem?_map, fws_at hj]
    rfl
  have mv : ∀ {σ : L2.St} {G' : Hp} {ta tb : TE} {n q : Int}, EvD ta σ G' (rowD n) → EvD tb σ G' (.int q) → OkN n → 0 ≤ q → q ≤ 1000 → EvT (tNot (tB (tCall (spO rLMovedK) [] E0 (tCons ta (tCons tb tNil))))) σ G' false := fun h1 h2 ho q0 q1 => et_is (et_not (et_of (ed_call (d := .bool true) (ea_cons h1 (ea_cons h2 ea_nil)) ⟨_, _, rfl, ho, q0, q1, rfl⟩))) rfl
  have op : ∀ {σ : L2.St} {G' : Hp} {ta tb : TE} {ms : List Int} {k : Int}, EvD ta σ G' (.tuple (ms.map .int)) → EvD tb σ G' (.int k) → pileI ms = true → ms.length ≤ 100 → 0 ≤ k → k ≤ 99 → EvT (tNot (tB (tCall (spO rLOpened) [] E0 (tCons ta (tCons tb tNil))))) σ G' false := fun h1 h2 ho hz q0 q1 => et_is (et_not (et_of (ed_call (d := .bool true) (ea_cons h1 (ea_cons h2 ea_nil)) ⟨_, _, rfl, ho, hz, q0, q1, rfl⟩))) rfl
  have m1 : ∀ {σ : L2.St} {G' : Hp} {ta : TE} {n : Int}, EvD ta σ G' (rowD n) → OkN n → Fits n 1 → EvD (tCall (spO (rMoved (T.er.c 1) (T.er.c 3))) [.int 1] E0 (tCons ta tNil)) σ G' (rowD (upN n 1)) := fun h ho hf => (ed_callV (dv := .int 1) (d := .tuple ((upI 1 (rowI _)).map .int)) (ea_cons h ea_nil) rfl (.inr ⟨_, 1, rfl, ho, (moved_fits hf).symm⟩)).is (up_row ho hf (by decide)).2.1
  have m2 : ∀ {σ : L2.St} {G' : Hp} {ta tb : TE} {n q : Int}, EvD ta σ G' (rowD n) → EvD tb σ G' (.int q) → OkN n → 0 ≤ q → Fits n q → EvD (tCall (spO (rMoved (T.er.c 1) (T.er.c 3))) [] E0 (tCons ta (tCons tb tNil))) σ G' (rowD (upN n q)) := fun h h2 ho q0 hf => (ed_call (d := .tuple ((upI _ (rowI _)).map .int)) (ea_cons h (ea_cons h2 ea_nil)) (.inr ⟨_, _, rfl, ho, (moved_fits hf).symm⟩)).is (up_row ho hf q0).2.1
  refine d_forEn (G0 := H) (ns := ns) P2 (ei_enumS (ev_var rfl) (ex_l (x1.trans x2) hS)) (fun σ => ∃ x y z u t, σ = [some (.ref a), some v1, some v2, x, y, z, u, t]) ⟨_, _, _, _, _, rfl⟩ (fun k c σ' G8 H8 N hk x8 P8 hC hN => ?_) fun σ' G8 H8 hC x8 P8 => ?_
  · obtain ⟨x, y, z, u, t, rfl⟩ := hC
    have pn0 := pn (by omega)
    refine d_asgS P8 (d := .int (mixI c (81 + (k : Nat)))) (ed_call (ea_cons (ed_var rfl (.int c)) (ea_cons (ed_0I ed_int (ed_var rfl (.int _))) ea_nil)) ⟨_, _, rfl, by omega, by omega, rfl⟩) rfl fun H9 P9 y9 => ?_
    have n0 := mixI_nn c (81 + (k : Nat))
    generalize mixI c (81 + (k : Nat)) = m at n0
    have a0 : 0 ≤ m % 4 := Int.emod_nonneg _ (by decide)
    have a1 : m % 4 < 4 := Int.emod_lt_of_pos _ (by decide)
    have hone := one_ok m
    refine d_asgS P9 (d := .int (oneI m)) ((ed_iI (C := fun _ j => 0 < j) (g := fun i j => i % j) (ed_iI (C := CMul) (g := fun i j => i * j) (ed_iI (C := CMul) (g := fun i j => i * j) (ed_var rfl (.int m)) (ed_int (i := 48271)) (.inr (by decide))) (ed_int (i := 48271)) (.inr (by decide))) (ed_ixL (i := m % 4) (d := .int (if m % 4 = 0 then fw 100 else if m % 4 = 2 then 1000 else fw 99)) (ed_lst (ea_cons (w_ (j := 100) x8 (by decide) rfl) (ea_cons (w_ (j := 99) x8 (by decide) rfl) (ea_cons ed_int (ea_cons (w_ (j := 99) x8 (by decide) rfl) ea_nil)))) (by show 4 ≤ 100000; decide)) (ed_iI (ed_var rfl (.int m)) ed_int (by decide)) ?_) ?_).is (by unfold oneI; rfl)) rfl fun H10 P10 y10 => ?_
    · rw [atI_pos a0]
      by_cases z0 : m % 4 = 0
      · rw [if_pos z0, z0]
        rfl
      · by_cases z2 : m % 4 = 2
        · rw [if_neg z0, if_pos z2, z2]
          rfl
        · rw [if_neg z0, if_neg z2]
          rcases (show m % 4 = 1 ∨ m % 4 = 3 by omega) with z1 | z1
          · rw [z1]
            rfl
          · rw [z1]
            rfl
    · have b0 := fw_pos 100
      have b1 := fw_pos 99
      split
      · omega
      · split <;> omega
    refine d_asg P10 (d := rowD (oneI m)) (ed_call (ea_cons (ed_var rfl (.int _)) ea_nil) ⟨_, rfl, rfl⟩) fun v7 G11 H11 P11 x11 y11 r7 => ?_
    generalize oneI m = n at hone r7
    have d4 : ∀ {σ : L2.St} {G' : Hp} {j : Int}, 0 < j → σ[5]? = some (some (.int m)) → EvD (tOp (rI (fun _ j => 0 < j) fun i j => .int (i % j)) (tOp (rI CDiv fun i j => .int (i / j)) (tVar 5) (tC (.int 4))) (tC (.int j))) σ G' (.int (m / 4 % j)) := fun hj h => ed_iI (ed_iI (ed_var h (.int _)) ed_int ⟨by decide, by decide⟩) ed_int hj
    have j0 : 0 ≤ m / 4 % 4 ∧ m / 4 % 4 < 4 := ⟨Int.emod_nonneg _ (by decide), Int.emod_lt_of_pos _ (by decide)⟩
    have j1 : 0 ≤ m / 4 % 120 ∧ m / 4 % 120 < 120 := ⟨Int.emod_nonneg _ (by decide), Int.emod_lt_of_pos _ (by decide)⟩
    refine d_when P11 (b := false) (et_is (et_or (a := false) (b := false) (mv (ed_var rfl r7) (d4 (by decide) rfl) hone (by omega) (by omega)) fun _ => mv (ed_var rfl r7) (d4 (by decide) rfl) hone (by omega) (by omega)) rfl) (fun hb => by cases hb) fun _ H12 P12 y12 => ?_
    have x811 := x8.trans x11
    refine d_when P12 (b := false) (et_is (et_and (a := decide (n < fw 99)) (b := false) (et_of' (ed_0B (ed_var rfl (.int _)) (w_ (j := 99) x811 (by decide) rfl))) fun hb => et_is (et_not (et_of (ed_call (d := .bool true) (ea_cons (ed_var rfl (.int _)) ea_nil) ⟨n, rfl, hone, of_decide_eq_true hb, rfl⟩))) rfl) (Bool.and_false _)) (fun hb => by cases hb) fun _ H13 P13 y13 => ?_
    refine d_when P13 (b := false) (et_is (et_or (a := false) (b := false) (et_is (et_and (a := decide (n < fw 98)) (b := false) (et_of' (ed_0B (ed_var rfl (.int _)) (w_ (j := 98) x811 (by decide) rfl))) fun hb => ?_) (Bool.and_false _)) fun _ => ?_) rfl) (fun hb => by cases hb) fun _ H14 P14 y14 => ?_
    · have h98 := of_decide_eq_true hb
      have f1 := fits_below (p := 1) hone h98 (by decide)
      have f2 := fits_below (p := 2) hone h98 (by decide)
      obtain ⟨u1, u2, u3⟩ := up_row hone f1 (by decide)
      obtain ⟨w1, w2, w3⟩ := up_row hone f2 (by decide)
      have f11 : Fits (upN n 1) 1 := by
        by_cases z : rowI n = []
        · refine .inl ?_
          rw [u3, z]
          rfl
        · refine .inr ?_
          have hz : upI 1 (rowI n) ≠ [] := fun y => z (List.map_eq_nil_iff.mp y)
          rw [u3]
          obtain ⟨y, hy, ey⟩ := List.mem_map.mp (lastD_mem hz)
          have ey' : y + 1 = (upI 1 (rowI n)).getLastD 0 := ey
          have := row_below hone h98 y hy
          omega
      have e12 : upN (upN n 1) 1 = upN n 2 := by
        show worthI (upI 1 (rowI (upN n 1))) = worthI (upI 2 (rowI n))
        rw [u3, up_up]
      refine et_is (et_of' (ed_ne (m2 (ed_var rfl r7) ed_int hone (by decide) f2) ((m1 (m1 (ed_var rfl r7) hone f1) u1 f11).is (e := rowD (upN n 2)) (by rw [e12])) (shaped_tup _) (shaped_tup _))) ?_
      unfold rowD
      rw [eqv_tup]
      rfl
    · have f0 : Fits n 0 := by
        by_cases z : rowI n = []
        · exact .inl z
        · refine .inr ?_
          have := row_in _ (lastD_mem z)
          omega
      have e0 : upN n 0 = n := by
        show worthI (upI 0 (rowI n)) = n
        rw [up_zero, worth_row hone]
      refine et_is (et_of' (ed_ne ((m2 (ed_var rfl r7) ed_int hone (by decide) f0).is (e := rowD n) (by rw [e0])) (ed_var rfl r7) (shaped_tup _) (shaped_tup _))) ?_
      unfold rowD
      rw [eqv_tup]
      rfl
    have r2' := r2.up x811
    have q0 : 0 ≤ m % (p.length : Int) := Int.emod_nonneg _ (by omega)
    have q1 : m % (p.length : Int) < p.length := Int.emod_lt_of_pos _ (by omega)
    have ql := placeI_in m
    have qm : p.getD (m % (p.length : Int)).toNat 0 ∈ p := getD_in (by omega)
    refine d_if1 P14 (b := false) (et_is (et_or (a := false) (b := false) (op (ed_var rfl r2') (ed_call (ea_cons (ed_var rfl (.int m)) ea_nil) ⟨m, rfl, rfl⟩) hp (by omega) ql.1 ql.2) fun _ => op (ed_var rfl r2') (ed_ixT (i := m % (p.length : Int)) (d := .int (p.getD (m % (p.length : Int)).toNat 0)) (ed_var rfl r2') (ed_iI (C := fun _ j => 0 < j) (g := fun i j => i % j) (ed_var rfl (.int m)) ((ed_lenT (ed_var rfl r2')).is (by rw [List.length_map])) (by show (0 : Int) < _; omega)) ?_) hp (by omega) (hin _ qm).1 (hin _ qm).2) rfl) (fun hb => by cases hb) fun _ H15 P15 y15 => hN _ _ ⟨_, _, _, _, _, rfl⟩ (y9.trans (y10.trans (y11.trans (y12.trans (y13.trans (y14.trans y15))))))
    rw [atI_pos q0, List.getElem?_map, List.getD_eq_getElem?_getD, List.getElem?_eq_getElem (by omega)]
    rfl
  · obtain ⟨x, y, z, u, t, rfl⟩ := hC
    have FM := (has_moved (P := P) (w := w) (base := base) T).fnr (j := 5) T.a_moved.g (by decide)
    have FO := (has_opened (P := P) (w := w) (base := base) T).fnr (j := 5) T.a_opened.g (by decide)
    have hf : ∀ (f : Addr) {σ : L2.St} {G' : Hp}, EvD (tC (.ref f)) σ G' (opq f) := fun f {σ G'} H x Q q => q _ _ H (Part.refl x) (.obj _)
    have l1 : ∀ {σ : L2.St} {G' : Hp} {ta : TE} {d : PyData}, EvD ta σ G' d → EvD (tLst (tCons ta tNil)) σ G' (.list [d]) := fun h => ed_lst (ea_cons h ea_nil) (by show 1 ≤ 100000; decide)
    have t0 : ∀ {σ : L2.St} {G' : Hp}, EvD (tTup tNil) σ G' (rowD 0) := (ed_tup ea_nil (by decide)).is (by unfold rowD; rw [row0]; rfl)
    have t1 : ∀ {σ : L2.St} {G' : Hp} (n : Int), EvD (tTup (tCons (tC (.int n)) tNil)) σ G' (.tuple ([n].map .int)) := fun n => ed_tup (ea_cons ed_int ea_nil) (by show 1 ≤ 100000; decide)
    have t2 : ∀ {σ : L2.St} {G' : Hp} (n m : Int), EvD (tTup (tCons (tC (.int n)) (tCons (tC (.int m)) tNil))) σ G' (.tuple ([n, m].map .int)) := fun n m => ed_tup (ea_cons ed_int (ea_cons ed_int ea_nil)) (by show 2 ≤ 100000; decide)
    have t4 : ∀ {σ : L2.St} {G' : Hp} (n m j k : Int), EvD (tTup (tCons (tC (.int n)) (tCons (tC (.int m)) (tCons (tC (.int j)) (tCons (tC (.int k)) tNil))))) σ G' (.tuple ([n, m, j, k].map .int)) := fun n m j k => ed_tup (ea_cons ed_int (ea_cons ed_int (ea_cons ed_int (ea_cons ed_int ea_nil)))) (by show 4 ≤ 100000; decide)
    have tn : ∀ {σ : L2.St} {G' : Hp} {te : TE} (k : Nat) (s : Str), k < 6 → s = errName k → EvD te σ G' (.str (errName k)) → EvT (tTest (tOp (rNeD K) te (tC (.str s)))) σ G' false := fun k s hk hs h => by
      subst hs
      refine et_is (et_of' (ed_ne h ed_str (shaped_err hk) (shaped_err hk))) ?_
      rw [eqv_err hk]
      rfl
    have l99 : Loose [99] := List.pairwise_singleton _ _
    obtain ⟨h1, h2⟩ := loose_row l99 (by decide)
    have o99 : OkN (worthI [99]) := ⟨worth_nn _, h1⟩
    have e99 : PyData.tuple (([99] : List Int).map .int) = rowD (worthI [99]) := by
      unfold rowD
      rw [h2]
    refine d_when P8 (b := false) (et_is (et_or (a := false) (b := false) (tn 3 "TooGreat" (by decide) rfl (ed_triedV (R := T.er) (dv := .int 1) (hf _) (l1 ((t1 99).is e99)) (.inl rfl) rfl rfl FM T.a_moved.kp (.inr ⟨_, 1, rfl, o99, rfl⟩) (by
      unfold movedO
      rw [h2, if_pos (by decide)]
      exact ⟨3, by decide, rfl, rfl⟩))) fun _ => tn 1 "NoRow" (by decide) rfl (ed_triedV (R := T.er) (dv := .int 1) (o := .err (T.er.c 1)) (hf _) (l1 (t2 0 1)) (.inl rfl) rfl rfl FM T.a_moved.kp (.inl ⟨_, 1, rfl, plain_ints _, by rw [isRow_ints]; decide +kernel, rfl⟩) ⟨1, by decide, rfl, rfl⟩)) rfl) (fun hb => by cases hb) fun _ H9 P9 _ => ?_
    refine d_when P9 (b := false) (et_is (et_or (a := false) (b := false) (tn 0 "NoPile" (by decide) rfl (ed_tried (R := T.er) (o := .err (T.er.c 0)) (hf _) (ed_lst (ea_cons (t2 1 0) (ea_cons ed_int ea_nil)) (by show 2 ≤ 100000; decide)) (.inr rfl) FO T.a_opened.kp (.inl ⟨_, 1, rfl, plain_ints _, by rw [isPile_ints]; decide +kernel, rfl⟩) ⟨0, by decide, rfl, rfl⟩)) fun _ => et_is (et_or (a := false) (b := false) (op (t4 0 1 1 2) ed_int (by decide +kernel) (by decide) (by decide) (by decide)) fun _ => op (t1 0) ed_int (by decide +kernel) (by decide) (by decide) (by decide)) rfl) rfl) (fun hb => by cases hb) fun _ H10 P10 _ => ?_
    have f0 : ∀ q : Int, Fits 0 q := fun q => .inl row0
    have u0 : ∀ q : Int, upN 0 q = 0 := fun q => by
      show worthI (upI q (rowI 0)) = 0
      rw [row0]
      rfl
    exact d_retD (E := E) (d := .bool true) P10 ((ed_andV (a := true) (b := true) ((ed_eq ((m2 t0 ed_int ok0 (by decide) (f0 _)).is (e := rowD 0) (by rw [u0])) t0 (shaped_tup _) (shaped_tup _)).is (by unfold rowD; rw [eqv_tup])) fun _ => (ed_eq ((m1 t0 ok0 (f0 _)).is (e := rowD 0) (by rw [u0])) t0 (shaped_tup _) (shaped_tup _)).is (by unfold rowD; rw [eqv_tup])).is rfl) q
end
end K10

set_option maxHeartbeats 4000000
namespace K10
open PySem PySem.Spec PyProof.Rows L2 Evl Lm
theorem err_one {K : PySem.W.Frag} {M : Addr} {e0 e1 e2 e3 e4 e5 : Addr} (o0 : ErrOne K e0 M) (o1 : ErrOne K e1 M) (o2 : ErrOne K e2 M) (o3 : ErrOne K e3 M) (o4 : ErrOne K e4 M) (o5 : ErrOne K e5 M) : ∀ i, i < 6 → ErrOne K (errAt e0 e1 e2 e3 e4 e5 i) M
  | 0, _ => o0
  | 1, _ => o1
  | 2, _ => o2
  | 3, _ => o3
  | 4, _ => o4
  | 5, _ => o5
  | n + 6, h => by omega
theorem pair_all {K : PySem.W.Frag} {e0 e1 e2 e3 e4 e5 : Addr} (s01 : PySem.W.subIn K (.ref e0) (.ref e1) = some false) (s02 : PySem.W.subIn K (.ref e0) (.ref e2) = some false) (s03 : PySem.W.subIn K (.ref e0) (.ref e3) = some false) (s04 : PySem.W.subIn K (.ref e0) (.ref e4) = some false) (s05 : PySem.W.subIn K (.ref e0) (.ref e5) = some false) (s10 : PySem.W.subIn K (.ref e1) (.ref e0) = some false) (s12 : PySem.W.subIn K (.ref e1) (.ref e2) = some false) (s13 : PySem.W.subIn K (.ref e1) (.ref e3) = some false) (s14 : PySem.W.subIn K (.ref e1) (.ref e4) = some false) (s15 : PySem.W.subIn K (.ref e1) (.ref e5) = some false) (s20 : PySem.W.subIn K (.ref e2) (.ref e0) = some false) (s21 : PySem.W.subIn K (.ref e2) (.ref e1) = some false) (s23 : PySem.W.subIn K (.ref e2) (.ref e3) = some false) (s24 : PySem.W.subIn K (.ref e2) (.ref e4) = some false) (s25 : PySem.W.subIn K (.ref e2) (.ref e5) = some false) (s30 : PySem.W.subIn K (.ref e3) (.ref e0) = some false) (s31 : PySem.W.subIn K (.ref e3) (.ref e1) = some false) (s32 : PySem.W.subIn K (.ref e3) (.ref e2) = some false) (s34 : PySem.W.subIn K (.ref e3) (.ref e4) = some false) (s35 : PySem.W.subIn K (.ref e3) (.ref e5) = some false) (s40 : PySem.W.subIn K (.ref e4) (.ref e0) = some false) (s41 : PySem.W.subIn K (.ref e4) (.ref e1) = some false) (s42 : PySem.W.subIn K (.ref e4) (.ref e2) = some false) (s43 : PySem.W.subIn K (.ref e4) (.ref e3) = some false) (s45 : PySem.W.subIn K (.ref e4) (.ref e5) = some false) (s50 : PySem.W.subIn K (.ref e5) (.ref e0) = some false) (s51 : PySem.W.subIn K (.ref e5) (.ref e1) = some false) (s52 : PySem.W.subIn K (.ref e5) (.ref e2) = some false) (s53 : PySem.W.subIn K (.ref e5) (.ref e3) = some false) (s54 : PySem.W.subIn K (.ref e5) (.ref e4) = some false) : ∀ i j, i < 6 → j < 6 → i ≠ j → PySem.W.subIn K (.ref (errAt e0 e1 e2 e3 e4 e5 i)) (.ref (errAt e0 e1 e2 e3 e4 e5 j)) = some false
  | 0, 0, _, _, h => absurd rfl h
  | 0, 1, _, _, h => s01
  | 0, 2, _, _, h => s02
  | 0, 3, _, _, h => s03
  | 0, 4, _, _, h => s04
  | 0, 5, _, _, h => s05
  | 1, 0, _, _, h => s10
  | 1, 1, _, _, h => absurd rfl h
  | 1, 2, _, _, h => s12
  | 1, 3, _, _, h => s13
  | 1, 4, _, _, h => s14
  | 1, 5, _, _, h => s15
  | 2, 0, _, _, h => s20
  | 2, 1, _, _, h => s21
  | 2, 2, _, _, h => absurd rfl h
  | 2, 3, _, _, h => s23
  | 2, 4, _, _, h => s24
  | 2, 5, _, _, h => s25
  | 3, 0, _, _, h => s30
  | 3, 1, _, _, h => s31
  | 3, 2, _, _, h => s32
  | 3, 3, _, _, h => absurd rfl h
  | 3, 4, _, _, h => s34
  | 3, 5, _, _, h => s35
  | 4, 0, _, _, h => s40
  | 4, 1, _, _, h => s41
  | 4, 2, _, _, h => s42
  | 4, 3, _, _, h => s43
  | 4, 4, _, _, h => absurd rfl h
  | 4, 5, _, _, h => s45
  | 5, 0, _, _, h => s50
  | 5, 1, _, _, h => s51
  | 5, 2, _, _, h => s52
  | 5, 3, _, _, h => s53
  | 5, 4, _, _, h => s54
  | 5, 5, _, _, h => absurd rfl h
  | n + 6, _, h, _, _ => by omega
  | _, n + 6, _, h, _ => by omega
theorem all_mk {l : PySem.W.OpenLaw} {w : World} {K : PySem.W.Frag} {h : Heap} {mg : Str → Option Value} {fa : Addr} (X : K.In h) (G : h.Ns mainGlobals mg) (hfa : mg "law" = some (.ref fa))
    {f0 : Addr} {od0 an0 : Option Addr} {sl0 : Array (Option Value)} {oc0 kV0 dc0 pm0 cd0 ct0 : Value}
    {f1 : Addr} {od1 an1 : Option Addr} {sl1 : Array (Option Value)} {oc1 kV1 dc1 pm1 cd1 ct1 : Value}
    {f2 : Addr} {od2 an2 : Option Addr} {sl2 : Array (Option Value)} {oc2 kV2 dc2 pm2 cd2 ct2 : Value}
    {f3 : Addr} {od3 an3 : Option Addr} {sl3 : Array (Option Value)} {oc3 kV3 dc3 pm3 cd3 ct3 : Value}
    {f4 : Addr} {od4 an4 : Option Addr} {sl4 : Array (Option Value)} {oc4 kV4 dc4 pm4 cd4 ct4 : Value}
    {f5 : Addr} {od5 an5 : Option Addr} {sl5 : Array (Option Value)} {oc5 kV5 dc5 pm5 cd5 ct5 : Value}
    {f6 : Addr} {od6 an6 : Option Addr} {sl6 : Array (Option Value)} {oc6 kV6 dc6 pm6 cd6 ct6 : Value}
    {f7 : Addr} {od7 an7 : Option Addr} {sl7 : Array (Option Value)} {oc7 kV7 dc7 pm7 cd7 ct7 : Value}
    {f8 : Addr} {od8 an8 : Option Addr} {sl8 : Array (Option Value)} {oc8 kV8 dc8 pm8 cd8 ct8 : Value}
    {f9 : Addr} {od9 an9 : Option Addr} {sl9 : Array (Option Value)} {oc9 kV9 dc9 pm9 cd9 ct9 : Value}
    {f10 : Addr} {od10 an10 : Option Addr} {sl10 : Array (Option Value)} {oc10 kV10 dc10 pm10 cd10 ct10 : Value}
    {f11 : Addr} {od11 an11 : Option Addr} {sl11 : Array (Option Value)} {oc11 kV11 dc11 pm11 cd11 ct11 : Value}
    {f12 : Addr} {od12 an12 : Option Addr} {sl12 : Array (Option Value)} {oc12 kV12 dc12 pm12 cd12 ct12 : Value}
    {f13 : Addr} {od13 an13 : Option Addr} {sl13 : Array (Option Value)} {oc13 kV13 dc13 pm13 cd13 ct13 : Value}
    {f14 : Addr} {od14 an14 : Option Addr} {sl14 : Array (Option Value)} {oc14 kV14 dc14 pm14 cd14 ct14 : Value}
    {f15 : Addr} {od15 an15 : Option Addr} {sl15 : Array (Option Value)} {oc15 kV15 dc15 pm15 cd15 ct15 : Value}
    {f16 : Addr} {od16 an16 : Option Addr} {sl16 : Array (Option Value)} {oc16 kV16 dc16 pm16 cd16 ct16 : Value}
    {T16 : Addr} {ob16 : Obj} {nn16 : Nat}
    {tk16 : _}
    {f17 : Addr} {od17 an17 : Option Addr} {sl17 : Array (Option Value)} {oc17 kV17 dc17 pm17 cd17 ct17 : Value}
    {f18 : Addr} {od18 an18 : Option Addr} {sl18 : Array (Option Value)} {oc18 kV18 dc18 pm18 cd18 ct18 : Value}
    {f19 : Addr} {od19 an19 : Option Addr} {sl19 : Array (Option Value)} {oc19 kV19 dc19 pm19 cd19 ct19 : Value}
    {f20 : Addr} {od20 an20 : Option Addr} {sl20 : Array (Option Value)} {oc20 kV20 dc20 pm20 cd20 ct20 : Value}
    {f21 : Addr} {od21 an21 : Option Addr} {sl21 : Array (Option Value)} {oc21 kV21 dc21 pm21 cd21 ct21 : Value}
    {f22 : Addr} {od22 an22 : Option Addr} {sl22 : Array (Option Value)} {oc22 kV22 dc22 pm22 cd22 ct22 : Value}
    {f23 : Addr} {od23 an23 : Option Addr} {sl23 : Array (Option Value)} {oc23 kV23 dc23 pm23 cd23 ct23 : Value}
    {f24 : Addr} {od24 an24 : Option Addr} {sl24 : Array (Option Value)} {oc24 kV24 dc24 pm24 cd24 ct24 : Value}
    {f25 : Addr} {od25 an25 : Option Addr} {sl25 : Array (Option Value)} {oc25 kV25 dc25 pm25 cd25 ct25 : Value}
    {f26 : Addr} {od26 an26 : Option Addr} {sl26 : Array (Option Value)} {oc26 kV26 dc26 pm26 cd26 ct26 : Value}
    {f27 : Addr} {od27 an27 : Option Addr} {sl27 : Array (Option Value)} {oc27 kV27 dc27 pm27 cd27 ct27 : Value}
    {f28 : Addr} {od28 an28 : Option Addr} {sl28 : Array (Option Value)} {oc28 kV28 dc28 pm28 cd28 ct28 : Value}
    {f29 : Addr} {od29 an29 : Option Addr} {sl29 : Array (Option Value)} {oc29 kV29 dc29 pm29 cd29 ct29 : Value}
    {t_LAST_PLACE : _}
    {t_MOST_MARKS : _}
    {t_JOIN : _}
    {t_PART : _}
    {eM e0 e1 e2 e3 e4 e5 : Addr}
    (a0 : PySem.W.nsIn K mainGlobals "is_place" = some (some (.ref f0)))
    (l0 : K.lookup f0 = some ⟨oc0, od0, .func (PySem.W.fnOf "is_place" "is_place" (defArgs (topS 11)) (defBody (topS 11)) (defScope (topS 11)) .none kV0 dc0 pm0 an0 cd0 ct0), sl0⟩)
    (c0 : PySem.W.codeIn K cd0 "is_place" = true)
    (k0 : PySem.W.keepIn K (.ref f0) = true)
    (a1 : PySem.W.nsIn K mainGlobals "next_pairs" = some (some (.ref f1)))
    (l1 : K.lookup f1 = some ⟨oc1, od1, .func (PySem.W.fnOf "next_pairs" "next_pairs" (defArgs (topS 12)) (defBody (topS 12)) (defScope (topS 12)) .none kV1 dc1 pm1 an1 cd1 ct1), sl1⟩)
    (c1 : PySem.W.codeIn K cd1 "next_pairs" = true)
    (k1 : PySem.W.keepIn K (.ref f1) = true)
    (a2 : PySem.W.nsIn K mainGlobals "is_pile" = some (some (.ref f2)))
    (l2 : K.lookup f2 = some ⟨oc2, od2, .func (PySem.W.fnOf "is_pile" "is_pile" (defArgs (topS 13)) (defBody (topS 13)) (defScope (topS 13)) .none kV2 dc2 pm2 an2 cd2 ct2), sl2⟩)
    (c2 : PySem.W.codeIn K cd2 "is_pile" = true)
    (k2 : PySem.W.keepIn K (.ref f2) = true)
    (a3 : PySem.W.nsIn K mainGlobals "is_row" = some (some (.ref f3)))
    (l3 : K.lookup f3 = some ⟨oc3, od3, .func (PySem.W.fnOf "is_row" "is_row" (defArgs (topS 14)) (defBody (topS 14)) (defScope (topS 14)) .none kV3 dc3 pm3 an3 cd3 ct3), sl3⟩)
    (c3 : PySem.W.codeIn K cd3 "is_row" = true)
    (k3 : PySem.W.keepIn K (.ref f3) = true)
    (a4 : PySem.W.nsIn K mainGlobals "need_pile" = some (some (.ref f4)))
    (l4 : K.lookup f4 = some ⟨oc4, od4, .func (PySem.W.fnOf "need_pile" "need_pile" (defArgs (topS 15)) (defBody (topS 15)) (defScope (topS 15)) .none kV4 dc4 pm4 an4 cd4 ct4), sl4⟩)
    (c4 : PySem.W.codeIn K cd4 "need_pile" = true)
    (k4 : PySem.W.keepIn K (.ref f4) = true)
    (a5 : PySem.W.nsIn K mainGlobals "need_row" = some (some (.ref f5)))
    (l5 : K.lookup f5 = some ⟨oc5, od5, .func (PySem.W.fnOf "need_row" "need_row" (defArgs (topS 16)) (defBody (topS 16)) (defScope (topS 16)) .none kV5 dc5 pm5 an5 cd5 ct5), sl5⟩)
    (c5 : PySem.W.codeIn K cd5 "need_row" = true)
    (k5 : PySem.W.keepIn K (.ref f5) = true)
    (a6 : PySem.W.nsIn K mainGlobals "moves_there" = some (some (.ref f6)))
    (l6 : K.lookup f6 = some ⟨oc6, od6, .func (PySem.W.fnOf "moves_there" "moves_there" (defArgs (topS 20)) (defBody (topS 20)) (defScope (topS 20)) .none kV6 dc6 pm6 an6 cd6 ct6), sl6⟩)
    (c6 : PySem.W.codeIn K cd6 "moves_there" = true)
    (k6 : PySem.W.keepIn K (.ref f6) = true)
    (a7 : PySem.W.nsIn K mainGlobals "is_move" = some (some (.ref f7)))
    (l7 : K.lookup f7 = some ⟨oc7, od7, .func (PySem.W.fnOf "is_move" "is_move" (defArgs (topS 21)) (defBody (topS 21)) (defScope (topS 21)) .none kV7 dc7 pm7 an7 cd7 ct7), sl7⟩)
    (c7 : PySem.W.codeIn K cd7 "is_move" = true)
    (k7 : PySem.W.keepIn K (.ref f7) = true)
    (a8 : PySem.W.nsIn K mainGlobals "going" = some (some (.ref f8)))
    (l8 : K.lookup f8 = some ⟨oc8, od8, .func (PySem.W.fnOf "going" "going" (defArgs (topS 22)) (defBody (topS 22)) (defScope (topS 22)) .none kV8 dc8 pm8 an8 cd8 ct8), sl8⟩)
    (c8 : PySem.W.codeIn K cd8 "going" = true)
    (k8 : PySem.W.keepIn K (.ref f8) = true)
    (a9 : PySem.W.nsIn K mainGlobals "coming" = some (some (.ref f9)))
    (l9 : K.lookup f9 = some ⟨oc9, od9, .func (PySem.W.fnOf "coming" "coming" (defArgs (topS 23)) (defBody (topS 23)) (defScope (topS 23)) .none kV9 dc9 pm9 an9 cd9 ct9), sl9⟩)
    (c9 : PySem.W.codeIn K cd9 "coming" = true)
    (k9 : PySem.W.keepIn K (.ref f9) = true)
    (a10 : PySem.W.nsIn K mainGlobals "fits" = some (some (.ref f10)))
    (l10 : K.lookup f10 = some ⟨oc10, od10, .func (PySem.W.fnOf "fits" "fits" (defArgs (topS 24)) (defBody (topS 24)) (defScope (topS 24)) .none kV10 dc10 pm10 an10 cd10 ct10), sl10⟩)
    (c10 : PySem.W.codeIn K cd10 "fits" = true)
    (k10 : PySem.W.keepIn K (.ref f10) = true)
    (a11 : PySem.W.nsIn K mainGlobals "exchanged" = some (some (.ref f11)))
    (l11 : K.lookup f11 = some ⟨oc11, od11, .func (PySem.W.fnOf "exchanged" "exchanged" (defArgs (topS 25)) (defBody (topS 25)) (defScope (topS 25)) .none kV11 dc11 pm11 an11 cd11 ct11), sl11⟩)
    (c11 : PySem.W.codeIn K cd11 "exchanged" = true)
    (k11 : PySem.W.keepIn K (.ref f11) = true)
    (a12 : PySem.W.nsIn K mainGlobals "behind" = some (some (.ref f12)))
    (l12 : K.lookup f12 = some ⟨oc12, od12, .func (PySem.W.fnOf "behind" "behind" (defArgs (topS 26)) (defBody (topS 26)) (defScope (topS 26)) .none kV12 dc12 pm12 an12 cd12 ct12), sl12⟩)
    (c12 : PySem.W.codeIn K cd12 "behind" = true)
    (k12 : PySem.W.keepIn K (.ref f12) = true)
    (a13 : PySem.W.nsIn K mainGlobals "done" = some (some (.ref f13)))
    (l13 : K.lookup f13 = some ⟨oc13, od13, .func (PySem.W.fnOf "done" "done" (defArgs (topS 27)) (defBody (topS 27)) (defScope (topS 27)) .none kV13 dc13 pm13 an13 cd13 ct13), sl13⟩)
    (c13 : PySem.W.codeIn K cd13 "done" = true)
    (k13 : PySem.W.keepIn K (.ref f13) = true)
    (a14 : PySem.W.nsIn K mainGlobals "closing" = some (some (.ref f14)))
    (l14 : K.lookup f14 = some ⟨oc14, od14, .func (PySem.W.fnOf "closing" "closing" (defArgs (topS 29)) (defBody (topS 29)) (defScope (topS 29)) .none kV14 dc14 pm14 an14 cd14 ct14), sl14⟩)
    (c14 : PySem.W.codeIn K cd14 "closing" = true)
    (k14 : PySem.W.keepIn K (.ref f14) = true)
    (a15 : PySem.W.nsIn K mainGlobals "opened" = some (some (.ref f15)))
    (l15 : K.lookup f15 = some ⟨oc15, od15, .func (PySem.W.fnOf "opened" "opened" (defArgs (topS 30)) (defBody (topS 30)) (defScope (topS 30)) .none kV15 dc15 pm15 an15 cd15 ct15), sl15⟩)
    (c15 : PySem.W.codeIn K cd15 "opened" = true)
    (k15 : PySem.W.keepIn K (.ref f15) = true)
    (a16 : PySem.W.nsIn K mainGlobals "moved" = some (some (.ref f16)))
    (l16 : K.lookup f16 = some ⟨oc16, od16, .func (PySem.W.fnOf "moved" "moved" (defArgs (topS 31)) (defBody (topS 31)) (defScope (topS 31)) (.ref T16) kV16 dc16 pm16 an16 cd16 ct16), sl16⟩)
    (c16 : PySem.W.codeIn K cd16 "moved" = true)
    (k16 : PySem.W.keepIn K (.ref f16) = true)
    (t16 : K.lookup T16 = some ob16)
    (o16 : ob16.data = .seq #[.int 1 tk16] nn16)
    (a17 : PySem.W.nsIn K mainGlobals "_law_mix" = some (some (.ref f17)))
    (l17 : K.lookup f17 = some ⟨oc17, od17, .func (PySem.W.fnOf "_law_mix" "_law_mix" (defArgs (topS 33)) (defBody (topS 33)) (defScope (topS 33)) .none kV17 dc17 pm17 an17 cd17 ct17), sl17⟩)
    (c17 : PySem.W.codeIn K cd17 "_law_mix" = true)
    (k17 : PySem.W.keepIn K (.ref f17) = true)
    (a18 : PySem.W.nsIn K mainGlobals "_law_worths" = some (some (.ref f18)))
    (l18 : K.lookup f18 = some ⟨oc18, od18, .func (PySem.W.fnOf "_law_worths" "_law_worths" (defArgs (topS 34)) (defBody (topS 34)) (defScope (topS 34)) .none kV18 dc18 pm18 an18 cd18 ct18), sl18⟩)
    (c18 : PySem.W.codeIn K cd18 "_law_worths" = true)
    (k18 : PySem.W.keepIn K (.ref f18) = true)
    (a19 : PySem.W.nsIn K mainGlobals "_law_row" = some (some (.ref f19)))
    (l19 : K.lookup f19 = some ⟨oc19, od19, .func (PySem.W.fnOf "_law_row" "_law_row" (defArgs (topS 35)) (defBody (topS 35)) (defScope (topS 35)) .none kV19 dc19 pm19 an19 cd19 ct19), sl19⟩)
    (c19 : PySem.W.codeIn K cd19 "_law_row" = true)
    (k19 : PySem.W.keepIn K (.ref f19) = true)
    (a20 : PySem.W.nsIn K mainGlobals "_law_worth" = some (some (.ref f20)))
    (l20 : K.lookup f20 = some ⟨oc20, od20, .func (PySem.W.fnOf "_law_worth" "_law_worth" (defArgs (topS 36)) (defBody (topS 36)) (defScope (topS 36)) .none kV20 dc20 pm20 an20 cd20 ct20), sl20⟩)
    (c20 : PySem.W.codeIn K cd20 "_law_worth" = true)
    (k20 : PySem.W.keepIn K (.ref f20) = true)
    (a21 : PySem.W.nsIn K mainGlobals "_law_place" = some (some (.ref f21)))
    (l21 : K.lookup f21 = some ⟨oc21, od21, .func (PySem.W.fnOf "_law_place" "_law_place" (defArgs (topS 37)) (defBody (topS 37)) (defScope (topS 37)) .none kV21 dc21 pm21 an21 cd21 ct21), sl21⟩)
    (c21 : PySem.W.codeIn K cd21 "_law_place" = true)
    (k21 : PySem.W.keepIn K (.ref f21) = true)
    (a22 : PySem.W.nsIn K mainGlobals "_law_pile" = some (some (.ref f22)))
    (l22 : K.lookup f22 = some ⟨oc22, od22, .func (PySem.W.fnOf "_law_pile" "_law_pile" (defArgs (topS 38)) (defBody (topS 38)) (defScope (topS 38)) .none kV22 dc22 pm22 an22 cd22 ct22), sl22⟩)
    (c22 : PySem.W.codeIn K cd22 "_law_pile" = true)
    (k22 : PySem.W.keepIn K (.ref f22) = true)
    (a23 : PySem.W.nsIn K mainGlobals "_law_word" = some (some (.ref f23)))
    (l23 : K.lookup f23 = some ⟨oc23, od23, .func (PySem.W.fnOf "_law_word" "_law_word" (defArgs (topS 39)) (defBody (topS 39)) (defScope (topS 39)) .none kV23 dc23 pm23 an23 cd23 ct23), sl23⟩)
    (c23 : PySem.W.codeIn K cd23 "_law_word" = true)
    (k23 : PySem.W.keepIn K (.ref f23) = true)
    (a24 : PySem.W.nsIn K mainGlobals "_law_tried" = some (some (.ref f24)))
    (l24 : K.lookup f24 = some ⟨oc24, od24, .func (PySem.W.fnOf "_law_tried" "_law_tried" (defArgs (topS 40)) (defBody (topS 40)) (defScope (topS 40)) .none kV24 dc24 pm24 an24 cd24 ct24), sl24⟩)
    (c24 : PySem.W.codeIn K cd24 "_law_tried" = true)
    (k24 : PySem.W.keepIn K (.ref f24) = true)
    (a25 : PySem.W.nsIn K mainGlobals "_law_same" = some (some (.ref f25)))
    (l25 : K.lookup f25 = some ⟨oc25, od25, .func (PySem.W.fnOf "_law_same" "_law_same" (defArgs (topS 41)) (defBody (topS 41)) (defScope (topS 41)) .none kV25 dc25 pm25 an25 cd25 ct25), sl25⟩)
    (c25 : PySem.W.codeIn K cd25 "_law_same" = true)
    (k25 : PySem.W.keepIn K (.ref f25) = true)
    (a26 : PySem.W.nsIn K mainGlobals "_law_moved" = some (some (.ref f26)))
    (l26 : K.lookup f26 = some ⟨oc26, od26, .func (PySem.W.fnOf "_law_moved" "_law_moved" (defArgs (topS 42)) (defBody (topS 42)) (defScope (topS 42)) .none kV26 dc26 pm26 an26 cd26 ct26), sl26⟩)
    (c26 : PySem.W.codeIn K cd26 "_law_moved" = true)
    (k26 : PySem.W.keepIn K (.ref f26) = true)
    (a27 : PySem.W.nsIn K mainGlobals "_law_is_share" = some (some (.ref f27)))
    (l27 : K.lookup f27 = some ⟨oc27, od27, .func (PySem.W.fnOf "_law_is_share" "_law_is_share" (defArgs (topS 43)) (defBody (topS 43)) (defScope (topS 43)) .none kV27 dc27 pm27 an27 cd27 ct27), sl27⟩)
    (c27 : PySem.W.codeIn K cd27 "_law_is_share" = true)
    (k27 : PySem.W.keepIn K (.ref f27) = true)
    (a28 : PySem.W.nsIn K mainGlobals "_law_opened" = some (some (.ref f28)))
    (l28 : K.lookup f28 = some ⟨oc28, od28, .func (PySem.W.fnOf "_law_opened" "_law_opened" (defArgs (topS 44)) (defBody (topS 44)) (defScope (topS 44)) .none kV28 dc28 pm28 an28 cd28 ct28), sl28⟩)
    (c28 : PySem.W.codeIn K cd28 "_law_opened" = true)
    (k28 : PySem.W.keepIn K (.ref f28) = true)
    (a29 : PySem.W.nsIn K mainGlobals "law" = some (some (.ref f29)))
    (l29 : K.lookup f29 = some ⟨oc29, od29, .func (PySem.W.fnOf "law" "law" (defArgs (topS 45)) (defBody (topS 45)) (defScope (topS 45)) .none kV29 dc29 pm29 an29 cd29 ct29), sl29⟩)
    (c29 : PySem.W.codeIn K cd29 "law" = true)
    (k29 : PySem.W.keepIn K (.ref f29) = true)
    (z_ValueError : PySem.W.nsIn K mainGlobals "ValueError" = some none)
    (z_all : PySem.W.nsIn K mainGlobals "all" = some none)
    (z_bool : PySem.W.nsIn K mainGlobals "bool" = some none)
    (z_enumerate : PySem.W.nsIn K mainGlobals "enumerate" = some none)
    (z_int : PySem.W.nsIn K mainGlobals "int" = some none)
    (z_isinstance : PySem.W.nsIn K mainGlobals "isinstance" = some none)
    (z_len : PySem.W.nsIn K mainGlobals "len" = some none)
    (z_list : PySem.W.nsIn K mainGlobals "list" = some none)
    (z_max : PySem.W.nsIn K mainGlobals "max" = some none)
    (z_range : PySem.W.nsIn K mainGlobals "range" = some none)
    (z_reversed : PySem.W.nsIn K mainGlobals "reversed" = some none)
    (z_sorted : PySem.W.nsIn K mainGlobals "sorted" = some none)
    (z_str : PySem.W.nsIn K mainGlobals "str" = some none)
    (z_sum : PySem.W.nsIn K mainGlobals "sum" = some none)
    (z_tuple : PySem.W.nsIn K mainGlobals "tuple" = some none)
    (z_type : PySem.W.nsIn K mainGlobals "type" = some none)
    (z_zip : PySem.W.nsIn K mainGlobals "zip" = some none)
    (q_LAST_PLACE : PySem.W.nsIn K mainGlobals "LAST_PLACE" = some (some (.int 99 t_LAST_PLACE)))
    (q_MOST_MARKS : PySem.W.nsIn K mainGlobals "MOST_MARKS" = some (some (.int 240 t_MOST_MARKS)))
    (q_JOIN : PySem.W.nsIn K mainGlobals "JOIN" = some (some (.str "join" t_JOIN)))
    (q_PART : PySem.W.nsIn K mainGlobals "PART" = some (some (.str "part" t_PART)))
    (gEM : PySem.W.nsIn K mainGlobals "MarkError" = some (some (.ref eM)))
    (gE0 : PySem.W.nsIn K mainGlobals "NoPile" = some (some (.ref e0)))
    (gE1 : PySem.W.nsIn K mainGlobals "NoRow" = some (some (.ref e1)))
    (gE2 : PySem.W.nsIn K mainGlobals "NoMove" = some (some (.ref e2)))
    (gE3 : PySem.W.nsIn K mainGlobals "TooGreat" = some (some (.ref e3)))
    (gE4 : PySem.W.nsIn K mainGlobals "Below" = some (some (.ref e4)))
    (gE5 : PySem.W.nsIn K mainGlobals "NoText" = some (some (.ref e5)))
    (iM : PySem.W.isClsIn K eM = true)
    (tM : PySem.W.typeIn K (.ref eM) = some (.type "type"))
    (bM : PySem.W.subIn K (.ref eM) (.type "BaseException") = some true)
    (cn : PySem.W.specialIn K (.builtin "object.__class__") "__get__" = some (some (.builtin "getset_descriptor.__get__")))
    (ct_ : PySem.W.takesIn K (.builtin "object.__class__") = some true)
    (ek0 : PySem.W.keepIn K (.ref e0) = true)
    (ex0 : PySem.W.excIn K e0 [.type "ValueError", .type "Exception", .type "BaseException", .type "object"] "ValueError.__new__" = true)
    (eb0 : PySem.W.subIn K (.ref e0) (.type "BaseException") = some true)
    (et0 : PySem.W.typeIn K (.ref e0) = some (.type "type"))
    (ei0 : PySem.W.isClsIn K e0 = true)
    (em0 : PySem.W.subIn K (.ref e0) (.ref eM) = some true)
    (ev0 : PySem.W.subIn K (.ref e0) (.type "ValueError") = some true)
    (eg0 : PySem.W.findIn K (.ref e0) "__getattribute__" = some (some (.builtin "BaseException.__getattribute__")))
    (ea0 : PySem.W.findIn K (.ref e0) "__getattr__" = some none)
    (ed0 : PySem.W.hasDictIn K e0 = true)
    (ec0 : PySem.W.findIn K (.ref e0) "__class__" = some (some (.builtin "object.__class__")))
    (eo0 : PySem.W.mroIn K e0 (.type "object") = some true)
    (ek1 : PySem.W.keepIn K (.ref e1) = true)
    (ex1 : PySem.W.excIn K e1 [.type "ValueError", .type "Exception", .type "BaseException", .type "object"] "ValueError.__new__" = true)
    (eb1 : PySem.W.subIn K (.ref e1) (.type "BaseException") = some true)
    (et1 : PySem.W.typeIn K (.ref e1) = some (.type "type"))
    (ei1 : PySem.W.isClsIn K e1 = true)
    (em1 : PySem.W.subIn K (.ref e1) (.ref eM) = some true)
    (ev1 : PySem.W.subIn K (.ref e1) (.type "ValueError") = some true)
    (eg1 : PySem.W.findIn K (.ref e1) "__getattribute__" = some (some (.builtin "BaseException.__getattribute__")))
    (ea1 : PySem.W.findIn K (.ref e1) "__getattr__" = some none)
    (ed1 : PySem.W.hasDictIn K e1 = true)
    (ec1 : PySem.W.findIn K (.ref e1) "__class__" = some (some (.builtin "object.__class__")))
    (eo1 : PySem.W.mroIn K e1 (.type "object") = some true)
    (ek2 : PySem.W.keepIn K (.ref e2) = true)
    (ex2 : PySem.W.excIn K e2 [.type "ValueError", .type "Exception", .type "BaseException", .type "object"] "ValueError.__new__" = true)
    (eb2 : PySem.W.subIn K (.ref e2) (.type "BaseException") = some true)
    (et2 : PySem.W.typeIn K (.ref e2) = some (.type "type"))
    (ei2 : PySem.W.isClsIn K e2 = true)
    (em2 : PySem.W.subIn K (.ref e2) (.ref eM) = some true)
    (ev2 : PySem.W.subIn K (.ref e2) (.type "ValueError") = some true)
    (eg2 : PySem.W.findIn K (.ref e2) "__getattribute__" = some (some (.builtin "BaseException.__getattribute__")))
    (ea2 : PySem.W.findIn K (.ref e2) "__getattr__" = some none)
    (ed2 : PySem.W.hasDictIn K e2 = true)
    (ec2 : PySem.W.findIn K (.ref e2) "__class__" = some (some (.builtin "object.__class__")))
    (eo2 : PySem.W.mroIn K e2 (.type "object") = some true)
    (ek3 : PySem.W.keepIn K (.ref e3) = true)
    (ex3 : PySem.W.excIn K e3 [.type "ValueError", .type "Exception", .type "BaseException", .type "object"] "ValueError.__new__" = true)
    (eb3 : PySem.W.subIn K (.ref e3) (.type "BaseException") = some true)
    (et3 : PySem.W.typeIn K (.ref e3) = some (.type "type"))
    (ei3 : PySem.W.isClsIn K e3 = true)
    (em3 : PySem.W.subIn K (.ref e3) (.ref eM) = some true)
    (ev3 : PySem.W.subIn K (.ref e3) (.type "ValueError") = some true)
    (eg3 : PySem.W.findIn K (.ref e3) "__getattribute__" = some (some (.builtin "BaseException.__getattribute__")))
    (ea3 : PySem.W.findIn K (.ref e3) "__getattr__" = some none)
    (ed3 : PySem.W.hasDictIn K e3 = true)
    (ec3 : PySem.W.findIn K (.ref e3) "__class__" = some (some (.builtin "object.__class__")))
    (eo3 : PySem.W.mroIn K e3 (.type "object") = some true)
    (ek4 : PySem.W.keepIn K (.ref e4) = true)
    (ex4 : PySem.W.excIn K e4 [.type "ValueError", .type "Exception", .type "BaseException", .type "object"] "ValueError.__new__" = true)
    (eb4 : PySem.W.subIn K (.ref e4) (.type "BaseException") = some true)
    (et4 : PySem.W.typeIn K (.ref e4) = some (.type "type"))
    (ei4 : PySem.W.isClsIn K e4 = true)
    (em4 : PySem.W.subIn K (.ref e4) (.ref eM) = some true)
    (ev4 : PySem.W.subIn K (.ref e4) (.type "ValueError") = some true)
    (eg4 : PySem.W.findIn K (.ref e4) "__getattribute__" = some (some (.builtin "BaseException.__getattribute__")))
    (ea4 : PySem.W.findIn K (.ref e4) "__getattr__" = some none)
    (ed4 : PySem.W.hasDictIn K e4 = true)
    (ec4 : PySem.W.findIn K (.ref e4) "__class__" = some (some (.builtin "object.__class__")))
    (eo4 : PySem.W.mroIn K e4 (.type "object") = some true)
    (ek5 : PySem.W.keepIn K (.ref e5) = true)
    (ex5 : PySem.W.excIn K e5 [.type "ValueError", .type "Exception", .type "BaseException", .type "object"] "ValueError.__new__" = true)
    (eb5 : PySem.W.subIn K (.ref e5) (.type "BaseException") = some true)
    (et5 : PySem.W.typeIn K (.ref e5) = some (.type "type"))
    (ei5 : PySem.W.isClsIn K e5 = true)
    (em5 : PySem.W.subIn K (.ref e5) (.ref eM) = some true)
    (ev5 : PySem.W.subIn K (.ref e5) (.type "ValueError") = some true)
    (eg5 : PySem.W.findIn K (.ref e5) "__getattribute__" = some (some (.builtin "BaseException.__getattribute__")))
    (ea5 : PySem.W.findIn K (.ref e5) "__getattr__" = some none)
    (ed5 : PySem.W.hasDictIn K e5 = true)
    (ec5 : PySem.W.findIn K (.ref e5) "__class__" = some (some (.builtin "object.__class__")))
    (eo5 : PySem.W.mroIn K e5 (.type "object") = some true)
    (s01 : PySem.W.subIn K (.ref e0) (.ref e1) = some false)
    (s02 : PySem.W.subIn K (.ref e0) (.ref e2) = some false)
    (s03 : PySem.W.subIn K (.ref e0) (.ref e3) = some false)
    (s04 : PySem.W.subIn K (.ref e0) (.ref e4) = some false)
    (s05 : PySem.W.subIn K (.ref e0) (.ref e5) = some false)
    (s10 : PySem.W.subIn K (.ref e1) (.ref e0) = some false)
    (s12 : PySem.W.subIn K (.ref e1) (.ref e2) = some false)
    (s13 : PySem.W.subIn K (.ref e1) (.ref e3) = some false)
    (s14 : PySem.W.subIn K (.ref e1) (.ref e4) = some false)
    (s15 : PySem.W.subIn K (.ref e1) (.ref e5) = some false)
    (s20 : PySem.W.subIn K (.ref e2) (.ref e0) = some false)
    (s21 : PySem.W.subIn K (.ref e2) (.ref e1) = some false)
    (s23 : PySem.W.subIn K (.ref e2) (.ref e3) = some false)
    (s24 : PySem.W.subIn K (.ref e2) (.ref e4) = some false)
    (s25 : PySem.W.subIn K (.ref e2) (.ref e5) = some false)
    (s30 : PySem.W.subIn K (.ref e3) (.ref e0) = some false)
    (s31 : PySem.W.subIn K (.ref e3) (.ref e1) = some false)
    (s32 : PySem.W.subIn K (.ref e3) (.ref e2) = some false)
    (s34 : PySem.W.subIn K (.ref e3) (.ref e4) = some false)
    (s35 : PySem.W.subIn K (.ref e3) (.ref e5) = some false)
    (s40 : PySem.W.subIn K (.ref e4) (.ref e0) = some false)
    (s41 : PySem.W.subIn K (.ref e4) (.ref e1) = some false)
    (s42 : PySem.W.subIn K (.ref e4) (.ref e2) = some false)
    (s43 : PySem.W.subIn K (.ref e4) (.ref e3) = some false)
    (s45 : PySem.W.subIn K (.ref e4) (.ref e5) = some false)
    (s50 : PySem.W.subIn K (.ref e5) (.ref e0) = some false)
    (s51 : PySem.W.subIn K (.ref e5) (.ref e1) = some false)
    (s52 : PySem.W.subIn K (.ref e5) (.ref e2) = some false)
    (s53 : PySem.W.subIn K (.ref e5) (.ref e3) = some false)
    (s54 : PySem.W.subIn K (.ref e5) (.ref e4) = some false)
    : ∃ fd : FuncData, (∀ (s : Shared) (v : Value), BindsTo s fd ⟨[v], []⟩ [("_law_script", v)]) ∧ ∀ base : Heap, K.In base → base.Ns mainGlobals mg → FnOk l.prog w K mg base (L2.CX l.prog w) 8 fa fd ["_law_script"] (spLaw K) := by
  have e := hfa.symm.trans (PySem.W.mg_of X G a29)
  obtain rfl : f29 = fa := by cases e; rfl
  let T : Txt K mg := {
    er := errOf (M := eM) (c := errAt e0 e1 e2 e3 e4 e5) (PySem.W.mg_of X G gEM) (PySem.W.mg_of X G gE0) (PySem.W.mg_of X G gE1) (PySem.W.mg_of X G gE2) (PySem.W.mg_of X G gE3) (PySem.W.mg_of X G gE4) (PySem.W.mg_of X G gE5) iM tM bM (err_one ⟨ek0, ex0, eb0, et0, ei0, em0, ev0, ⟨eg0, ea0, eb0, ed0, ec0, cn, ct_, eo0⟩⟩ ⟨ek1, ex1, eb1, et1, ei1, em1, ev1, ⟨eg1, ea1, eb1, ed1, ec1, cn, ct_, eo1⟩⟩ ⟨ek2, ex2, eb2, et2, ei2, em2, ev2, ⟨eg2, ea2, eb2, ed2, ec2, cn, ct_, eo2⟩⟩ ⟨ek3, ex3, eb3, et3, ei3, em3, ev3, ⟨eg3, ea3, eb3, ed3, ec3, cn, ct_, eo3⟩⟩ ⟨ek4, ex4, eb4, et4, ei4, em4, ev4, ⟨eg4, ea4, eb4, ed4, ec4, cn, ct_, eo4⟩⟩ ⟨ek5, ex5, eb5, et5, ei5, em5, ev5, ⟨eg5, ea5, eb5, ed5, ec5, cn, ct_, eo5⟩⟩) (pair_all s01 s02 s03 s04 s05 s10 s12 s13 s14 s15 s20 s21 s23 s24 s25 s30 s31 s32 s34 s35 s40 s41 s42 s43 s45 s50 s51 s52 s53 s54),
    f_is_place := f0,
    a_is_place := ⟨PySem.W.mg_of X G a0, _, fun_mk (st := topS 11) l0 c0 k0, (fun_mk (st := topS 11) l0 c0 k0).binds (ps := ["thing"]) fun _ _ _ _ _ _ us hl => match us, hl with | [_], _ => rfl⟩,
    f_next_pairs := f1,
    a_next_pairs := ⟨PySem.W.mg_of X G a1, _, fun_mk (st := topS 12) l1 c1 k1, (fun_mk (st := topS 12) l1 c1 k1).binds (ps := ["pile"]) fun _ _ _ _ _ _ us hl => match us, hl with | [_], _ => rfl⟩,
    f_is_pile := f2,
    a_is_pile := ⟨PySem.W.mg_of X G a2, _, fun_mk (st := topS 13) l2 c2 k2, (fun_mk (st := topS 13) l2 c2 k2).binds (ps := ["thing"]) fun _ _ _ _ _ _ us hl => match us, hl with | [_], _ => rfl⟩,
    f_is_row := f3,
    a_is_row := ⟨PySem.W.mg_of X G a3, _, fun_mk (st := topS 14) l3 c3 k3, (fun_mk (st := topS 14) l3 c3 k3).binds (ps := ["thing"]) fun _ _ _ _ _ _ us hl => match us, hl with | [_], _ => rfl⟩,
    f_need_pile := f4,
    a_need_pile := ⟨PySem.W.mg_of X G a4, _, fun_mk (st := topS 15) l4 c4 k4, (fun_mk (st := topS 15) l4 c4 k4).binds (ps := ["thing"]) fun _ _ _ _ _ _ us hl => match us, hl with | [_], _ => rfl⟩,
    f_need_row := f5,
    a_need_row := ⟨PySem.W.mg_of X G a5, _, fun_mk (st := topS 16) l5 c5 k5, (fun_mk (st := topS 16) l5 c5 k5).binds (ps := ["thing"]) fun _ _ _ _ _ _ us hl => match us, hl with | [_], _ => rfl⟩,
    f_moves_there := f6,
    a_moves_there := ⟨PySem.W.mg_of X G a6, _, fun_mk (st := topS 20) l6 c6 k6, (fun_mk (st := topS 20) l6 c6 k6).binds (ps := ["pile"]) fun _ _ _ _ _ _ us hl => match us, hl with | [_], _ => rfl⟩,
    f_is_move := f7,
    a_is_move := ⟨PySem.W.mg_of X G a7, _, fun_mk (st := topS 21) l7 c7 k7, (fun_mk (st := topS 21) l7 c7 k7).binds (ps := ["thing"]) fun _ _ _ _ _ _ us hl => match us, hl with | [_], _ => rfl⟩,
    f_going := f8,
    a_going := ⟨PySem.W.mg_of X G a8, _, fun_mk (st := topS 22) l8 c8 k8, (fun_mk (st := topS 22) l8 c8 k8).binds (ps := ["move"]) fun _ _ _ _ _ _ us hl => match us, hl with | [_], _ => rfl⟩,
    f_coming := f9,
    a_coming := ⟨PySem.W.mg_of X G a9, _, fun_mk (st := topS 23) l9 c9 k9, (fun_mk (st := topS 23) l9 c9 k9).binds (ps := ["move"]) fun _ _ _ _ _ _ us hl => match us, hl with | [_], _ => rfl⟩,
    f_fits := f10,
    a_fits := ⟨PySem.W.mg_of X G a10, _, fun_mk (st := topS 24) l10 c10 k10, (fun_mk (st := topS 24) l10 c10 k10).binds (ps := ["move"]) fun _ _ _ _ _ _ us hl => match us, hl with | [_], _ => rfl⟩,
    f_exchanged := f11,
    a_exchanged := ⟨PySem.W.mg_of X G a11, _, fun_mk (st := topS 25) l11 c11 k11, (fun_mk (st := topS 25) l11 c11 k11).binds (ps := ["pile", "gone", "come"]) fun _ _ _ _ _ _ us hl => match us, hl with | [_, _, _], _ => rfl⟩,
    f_behind := f12,
    a_behind := ⟨PySem.W.mg_of X G a12, _, fun_mk (st := topS 26) l12 c12 k12, (fun_mk (st := topS 26) l12 c12 k12).binds (ps := ["pile", "move"]) fun _ _ _ _ _ _ us hl => match us, hl with | [_, _], _ => rfl⟩,
    f_done := f13,
    a_done := ⟨PySem.W.mg_of X G a13, _, fun_mk (st := topS 27) l13 c13 k13, (fun_mk (st := topS 27) l13 c13 k13).binds (ps := ["pile", "move"]) fun _ _ _ _ _ _ us hl => match us, hl with | [_, _], _ => rfl⟩,
    f_closing := f14,
    a_closing := ⟨PySem.W.mg_of X G a14, _, fun_mk (st := topS 29) l14 c14 k14, (fun_mk (st := topS 29) l14 c14 k14).binds (ps := ["place"]) fun _ _ _ _ _ _ us hl => match us, hl with | [_], _ => rfl⟩,
    f_opened := f15,
    a_opened := ⟨PySem.W.mg_of X G a15, _, fun_mk (st := topS 30) l15 c15 k15, (fun_mk (st := topS 30) l15 c15 k15).binds (ps := ["pile", "k"]) fun _ _ _ _ _ _ us hl => match us, hl with | [_, _], _ => rfl⟩,
    f_moved := f16,
    a_moved := atV_mk (st := topS 31) (ps := ["row", "places"]) (PySem.W.mg_of X G a16) l16 c16 k16 t16 o16 ⟨_, rfl⟩ (fun _ _ _ _ _ _ _ us its h1 h2 => match us, its, h1, h2 with | [_, _], [_], _, _ => ⟨_, rfl, rfl⟩) (fun _ _ _ _ _ _ _ us its h1 h2 => match us, its, h1, h2 with | [_], [_], _, _ => ⟨_, rfl, rfl⟩) (by decide),
    f__law_mix := f17,
    a__law_mix := ⟨PySem.W.mg_of X G a17, _, fun_mk (st := topS 33) l17 c17 k17, (fun_mk (st := topS 33) l17 c17 k17).binds (ps := ["_law_cell", "_law_k"]) fun _ _ _ _ _ _ us hl => match us, hl with | [_, _], _ => rfl⟩,
    f__law_worths := f18,
    a__law_worths := ⟨PySem.W.mg_of X G a18, _, fun_mk (st := topS 34) l18 c18 k18, (fun_mk (st := topS 34) l18 c18 k18).binds (ps := []) fun _ _ _ _ _ _ us hl => match us, hl with | [], _ => rfl⟩,
    f__law_row := f19,
    a__law_row := ⟨PySem.W.mg_of X G a19, _, fun_mk (st := topS 35) l19 c19 k19, (fun_mk (st := topS 35) l19 c19 k19).binds (ps := ["_law_number"]) fun _ _ _ _ _ _ us hl => match us, hl with | [_], _ => rfl⟩,
    f__law_worth := f20,
    a__law_worth := ⟨PySem.W.mg_of X G a20, _, fun_mk (st := topS 36) l20 c20 k20, (fun_mk (st := topS 36) l20 c20 k20).binds (ps := ["_law_pile_here"]) fun _ _ _ _ _ _ us hl => match us, hl with | [_], _ => rfl⟩,
    f__law_place := f21,
    a__law_place := ⟨PySem.W.mg_of X G a21, _, fun_mk (st := topS 37) l21 c21 k21, (fun_mk (st := topS 37) l21 c21 k21).binds (ps := ["_law_number"]) fun _ _ _ _ _ _ us hl => match us, hl with | [_], _ => rfl⟩,
    f__law_pile := f22,
    a__law_pile := ⟨PySem.W.mg_of X G a22, _, fun_mk (st := topS 38) l22 c22 k22, (fun_mk (st := topS 38) l22 c22 k22).binds (ps := ["_law_script", "_law_first", "_law_most"]) fun _ _ _ _ _ _ us hl => match us, hl with | [_, _, _], _ => rfl⟩,
    f__law_word := f23,
    a__law_word := ⟨PySem.W.mg_of X G a23, _, fun_mk (st := topS 39) l23 c23 k23, (fun_mk (st := topS 39) l23 c23 k23).binds (ps := ["_law_e"]) fun _ _ _ _ _ _ us hl => match us, hl with | [_], _ => rfl⟩,
    f__law_tried := f24,
    a__law_tried := ⟨PySem.W.mg_of X G a24, _, fun_mk (st := topS 40) l24 c24 k24, (fun_mk (st := topS 40) l24 c24 k24).binds (ps := ["_law_deed", "_law_things"]) fun _ _ _ _ _ _ us hl => match us, hl with | [_, _], _ => rfl⟩,
    f__law_same := f25,
    a__law_same := ⟨PySem.W.mg_of X G a25, _, fun_mk (st := topS 41) l25 c25 k25, (fun_mk (st := topS 41) l25 c25 k25).binds (ps := ["_law_found", "_law_due"]) fun _ _ _ _ _ _ us hl => match us, hl with | [_, _], _ => rfl⟩,
    f__law_moved := f26,
    a__law_moved := ⟨PySem.W.mg_of X G a26, _, fun_mk (st := topS 42) l26 c26 k26, (fun_mk (st := topS 42) l26 c26 k26).binds (ps := ["_law_row_here", "_law_many"]) fun _ _ _ _ _ _ us hl => match us, hl with | [_, _], _ => rfl⟩,
    f__law_is_share := f27,
    a__law_is_share := ⟨PySem.W.mg_of X G a27, _, fun_mk (st := topS 43) l27 c27 k27, (fun_mk (st := topS 43) l27 c27 k27).binds (ps := ["_law_number"]) fun _ _ _ _ _ _ us hl => match us, hl with | [_], _ => rfl⟩,
    f__law_opened := f28,
    a__law_opened := ⟨PySem.W.mg_of X G a28, _, fun_mk (st := topS 44) l28 c28 k28, (fun_mk (st := topS 44) l28 c28 k28).binds (ps := ["_law_pile_here", "_law_k"]) fun _ _ _ _ _ _ us hl => match us, hl with | [_, _], _ => rfl⟩,
    f_law := f29,
    a_law := ⟨PySem.W.mg_of X G a29, _, fun_mk (st := topS 45) l29 c29 k29, (fun_mk (st := topS 45) l29 c29 k29).binds (ps := ["_law_script"]) fun _ _ _ _ _ _ us hl => match us, hl with | [_], _ => rfl⟩,
    b_ValueError := PySem.W.mg_none_of X G z_ValueError,
    b_all := PySem.W.mg_none_of X G z_all,
    b_bool := PySem.W.mg_none_of X G z_bool,
    b_enumerate := PySem.W.mg_none_of X G z_enumerate,
    b_int := PySem.W.mg_none_of X G z_int,
    b_isinstance := PySem.W.mg_none_of X G z_isinstance,
    b_len := PySem.W.mg_none_of X G z_len,
    b_list := PySem.W.mg_none_of X G z_list,
    b_max := PySem.W.mg_none_of X G z_max,
    b_range := PySem.W.mg_none_of X G z_range,
    b_reversed := PySem.W.mg_none_of X G z_reversed,
    b_sorted := PySem.W.mg_none_of X G z_sorted,
    b_str := PySem.W.mg_none_of X G z_str,
    b_sum := PySem.W.mg_none_of X G z_sum,
    b_tuple := PySem.W.mg_none_of X G z_tuple,
    b_type := PySem.W.mg_none_of X G z_type,
    b_zip := PySem.W.mg_none_of X G z_zip,
    c_LAST_PLACE := ⟨_, PySem.W.mg_of X G q_LAST_PLACE⟩,
    c_MOST_MARKS := ⟨_, PySem.W.mg_of X G q_MOST_MARKS⟩,
    c_JOIN := ⟨_, PySem.W.mg_of X G q_JOIN⟩,
    c_PART := ⟨_, PySem.W.mg_of X G q_PART⟩ }
  exact ⟨_, fun s v => .of_eq rfl, fun base _ _ => ok_law T (fun_mk (st := topS 45) l29 c29 k29)⟩
end K10
open PySem PySem.W PyProof.Rows
set_option maxHeartbeats 0 in
theorem PySem.Challenge.cw_loosemarks_k10_moved_holds : PySem.Challenge.rw_loosemarks_k10_moved.Holds := by
  w_on; o_law; k_head; (case hw => w_witness2)
  k_fill
  refine L2.walk_of (l := PySem.Challenge.rw_loosemarks_k10_moved) (n := 63) (k := 8) (x := "_law_script") (CX := fun w => L2.CX PySem.Challenge.rw_loosemarks_k10_moved.prog w) (sp := fun w => Lm.spLaw _) rfl (by decide) rfl ⟨rfl, by decide, by decide⟩ (fun w h Y => PySem.W.kIn_of Y) ?F (fun _ _ a ns hl _ hS => ⟨a, ns, rfl, hS, hl, fun _ => rfl⟩) ?C
  case C =>
    intro w H s e s' c
    obtain ⟨_, _, _, _, _, _, _, _, _, _, _, _, z⟩ := c
    exact z
  case F =>
    intro w mg fa h KX G hmg
    refine' K10.all_mk KX G hmg ?a0 ?l0 ?c0 ?k0 ?a1 ?l1 ?c1 ?k1 ?a2 ?l2 ?c2 ?k2 ?a3 ?l3 ?c3 ?k3 ?a4 ?l4 ?c4 ?k4 ?a5 ?l5 ?c5 ?k5 ?a6 ?l6 ?c6 ?k6 ?a7 ?l7 ?c7 ?k7 ?a8 ?l8 ?c8 ?k8 ?a9 ?l9 ?c9 ?k9 ?a10 ?l10 ?c10 ?k10 ?a11 ?l11 ?c11 ?k11 ?a12 ?l12 ?c12 ?k12 ?a13 ?l13 ?c13 ?k13 ?a14 ?l14 ?c14 ?k14 ?a15 ?l15 ?c15 ?k15 ?a16 ?l16 ?c16 ?k16 ?t16 ?o16 ?a17 ?l17 ?c17 ?k17 ?a18 ?l18 ?c18 ?k18 ?a19 ?l19 ?c19 ?k19 ?a20 ?l20 ?c20 ?k20 ?a21 ?l21 ?c21 ?k21 ?a22 ?l22 ?c22 ?k22 ?a23 ?l23 ?c23 ?k23 ?a24 ?l24 ?c24 ?k24 ?a25 ?l25 ?c25 ?k25 ?a26 ?l26 ?c26 ?k26 ?a27 ?l27 ?c27 ?k27 ?a28 ?l28 ?c28 ?k28 ?a29 ?l29 ?c29 ?k29 ?z_ValueError ?z_all ?z_bool ?z_enumerate ?z_int ?z_isinstance ?z_len ?z_list ?z_max ?z_range ?z_reversed ?z_sorted ?z_str ?z_sum ?z_tuple ?z_type ?z_zip ?q_LAST_PLACE ?q_MOST_MARKS ?q_JOIN ?q_PART ?gEM ?gE0 ?gE1 ?gE2 ?gE3 ?gE4 ?gE5 ?iM ?tM ?bM ?cn ?ct_ ?ek0 ?ex0 ?eb0 ?et0 ?ei0 ?em0 ?ev0 ?eg0 ?ea0 ?ed0 ?ec0 ?eo0 ?ek1 ?ex1 ?eb1 ?et1 ?ei1 ?em1 ?ev1 ?eg1 ?ea1 ?ed1 ?ec1 ?eo1 ?ek2 ?ex2 ?eb2 ?et2 ?ei2 ?em2 ?ev2 ?eg2 ?ea2 ?ed2 ?ec2 ?eo2 ?ek3 ?ex3 ?eb3 ?et3 ?ei3 ?em3 ?ev3 ?eg3 ?ea3 ?ed3 ?ec3 ?eo3 ?ek4 ?ex4 ?eb4 ?et4 ?ei4 ?em4 ?ev4 ?eg4 ?ea4 ?ed4 ?ec4 ?eo4 ?ek5 ?ex5 ?eb5 ?et5 ?ei5 ?em5 ?ev5 ?eg5 ?ea5 ?ed5 ?ec5 ?eo5 ?s01 ?s02 ?s03 ?s04 ?s05 ?s10 ?s12 ?s13 ?s14 ?s15 ?s20 ?s21 ?s23 ?s24 ?s25 ?s30 ?s31 ?s32 ?s34 ?s35 ?s40 ?s41 ?s42 ?s43 ?s45 ?s50 ?s51 ?s52 ?s53 ?s54
    case a0 => k_is
    case l0 => k_is
    case c0 => k_is
    case k0 => k_is
    case a1 => k_is
    case l1 => k_is
    case c1 => k_is
    case k1 => k_is
    case a2 => k_is
    case l2 => k_is
    case c2 => k_is
    case k2 => k_is
    case a3 => k_is
    case l3 => k_is
    case c3 => k_is
    case k3 => k_is
    case a4 => k_is
    case l4 => k_is
    case c4 => k_is
    case k4 => k_is
    case a5 => k_is
    case l5 => k_is
    case c5 => k_is
    case k5 => k_is
    case a6 => k_is
    case l6 => k_is
    case c6 => k_is
    case k6 => k_is
    case a7 => k_is
    case l7 => k_is
    case c7 => k_is
    case k7 => k_is
    case a8 => k_is
    case l8 => k_is
    case c8 => k_is
    case k8 => k_is
    case a9 => k_is
    case l9 => k_is
    case c9 => k_is
    case k9 => k_is
    case a10 => k_is
    case l10 => k_is
    case c10 => k_is
    case k10 => k_is
    case a11 => k_is
    case l11 => k_is
    case c11 => k_is
    case k11 => k_is
    case a12 => k_is
    case l12 => k_is
    case c12 => k_is
    case k12 => k_is
    case a13 => k_is
    case l13 => k_is
    case c13 => k_is
    case k13 => k_is
    case a14 => k_is
    case l14 => k_is
    case c14 => k_is
    case k14 => k_is
    case a15 => k_is
    case l15 => k_is
    case c15 => k_is
    case k15 => k_is
    case a16 => k_is
    case l16 => k_is
    case c16 => k_is
    case k16 => k_is
    case t16 => k_is
    case o16 => rfl
    case a17 => k_is
    case l17 => k_is
    case c17 => k_is
    case k17 => k_is
    case a18 => k_is
    case l18 => k_is
    case c18 => k_is
    case k18 => k_is
    case a19 => k_is
    case l19 => k_is
    case c19 => k_is
    case k19 => k_is
    case a20 => k_is
    case l20 => k_is
    case c20 => k_is
    case k20 => k_is
    case a21 => k_is
    case l21 => k_is
    case c21 => k_is
    case k21 => k_is
    case a22 => k_is
    case l22 => k_is
    case c22 => k_is
    case k22 => k_is
    case a23 => k_is
    case l23 => k_is
    case c23 => k_is
    case k23 => k_is
    case a24 => k_is
    case l24 => k_is
    case c24 => k_is
    case k24 => k_is
    case a25 => k_is
    case l25 => k_is
    case c25 => k_is
    case k25 => k_is
    case a26 => k_is
    case l26 => k_is
    case c26 => k_is
    case k26 => k_is
    case a27 => k_is
    case l27 => k_is
    case c27 => k_is
    case k27 => k_is
    case a28 => k_is
    case l28 => k_is
    case c28 => k_is
    case k28 => k_is
    case a29 => k_is
    case l29 => k_is
    case c29 => k_is
    case k29 => k_is
    case z_ValueError => k_is
    case z_all => k_is
    case z_bool => k_is
    case z_enumerate => k_is
    case z_int => k_is
    case z_isinstance => k_is
    case z_len => k_is
    case z_list => k_is
    case z_max => k_is
    case z_range => k_is
    case z_reversed => k_is
    case z_sorted => k_is
    case z_str => k_is
    case z_sum => k_is
    case z_tuple => k_is
    case z_type => k_is
    case z_zip => k_is
    case q_LAST_PLACE => k_is
    case q_MOST_MARKS => k_is
    case q_JOIN => k_is
    case q_PART => k_is
    case gEM => k_is
    case gE0 => k_is
    case gE1 => k_is
    case gE2 => k_is
    case gE3 => k_is
    case gE4 => k_is
    case gE5 => k_is
    case iM => k_is
    case tM => k_is
    case bM => k_is
    case cn => k_is
    case ct_ => k_is
    case ek0 => k_is
    case ex0 => k_exc
    case eb0 => k_is
    case et0 => k_is
    case ei0 => k_is
    case em0 => k_is
    case ev0 => k_is
    case eg0 => k_is
    case ea0 => k_is
    case ed0 => k_is
    case ec0 => k_is
    case eo0 => k_is
    case ek1 => k_is
    case ex1 => k_exc
    case eb1 => k_is
    case et1 => k_is
    case ei1 => k_is
    case em1 => k_is
    case ev1 => k_is
    case eg1 => k_is
    case ea1 => k_is
    case ed1 => k_is
    case ec1 => k_is
    case eo1 => k_is
    case ek2 => k_is
    case ex2 => k_exc
    case eb2 => k_is
    case et2 => k_is
    case ei2 => k_is
    case em2 => k_is
    case ev2 => k_is
    case eg2 => k_is
    case ea2 => k_is
    case ed2 => k_is
    case ec2 => k_is
    case eo2 => k_is
    case ek3 => k_is
    case ex3 => k_exc
    case eb3 => k_is
    case et3 => k_is
    case ei3 => k_is
    case em3 => k_is
    case ev3 => k_is
    case eg3 => k_is
    case ea3 => k_is
    case ed3 => k_is
    case ec3 => k_is
    case eo3 => k_is
    case ek4 => k_is
    case ex4 => k_exc
    case eb4 => k_is
    case et4 => k_is
    case ei4 => k_is
    case em4 => k_is
    case ev4 => k_is
    case eg4 => k_is
    case ea4 => k_is
    case ed4 => k_is
    case ec4 => k_is
    case eo4 => k_is
    case ek5 => k_is
    case ex5 => k_exc
    case eb5 => k_is
    case et5 => k_is
    case ei5 => k_is
    case em5 => k_is
    case ev5 => k_is
    case eg5 => k_is
    case ea5 => k_is
    case ed5 => k_is
    case ec5 => k_is
    case eo5 => k_is
    case s01 => k_is
    case s02 => k_is
    case s03 => k_is
    case s04 => k_is
    case s05 => k_is
    case s10 => k_is
    case s12 => k_is
    case s13 => k_is
    case s14 => k_is
    case s15 => k_is
    case s20 => k_is
    case s21 => k_is
    case s23 => k_is
    case s24 => k_is
    case s25 => k_is
    case s30 => k_is
    case s31 => k_is
    case s32 => k_is
    case s34 => k_is
    case s35 => k_is
    case s40 => k_is
    case s41 => k_is
    case s42 => k_is
    case s43 => k_is
    case s45 => k_is
    case s50 => k_is
    case s51 => k_is
    case s52 => k_is
    case s53 => k_is
    case s54 => k_is

