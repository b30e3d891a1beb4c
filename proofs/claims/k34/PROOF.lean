import PyProof.Rows.All
import Wide.All
import OpenK.AllK
import Wide.FinOn
import HandS.ForMost
import KE.GoesEnum
import HandS.Codes
import HandS.IsInst
import HandS.Zip
import HandS.TupAny
import HandS.Deep
import HandS.TupSets
import HandS.Conv
import HandS.Walk
import HandS.SortInts
import HandS.TupMul
import KE.GoesZip
import HandS.SetFor
import HandS.Comp
import HandS.Set
import HandS.SetKeys
import HandS.SetBool
import PyProof.Rows.SortShellAny
import PyProof.Rows.SortStr
import HandS.NamedTupSort
import HandS.TryOnly
import HandS.OwnEq
import HandS.TupLe
import HandS.ExcInit
import HandS.Nested
import HandS.ExcOwn
import HandS.WordsExc
import HandS.ExcField
import HandS.ExcIs
import KE.KExcSuper
import KE.KSuper
import KE.RegKSuper
import PyProof.ReprBulk
import HandS.Style
import HandS.More
import KE.OsArith
import PyProof.Rows.BitMore
import KE.KDictList
import HandS.Lambda
import HandS.EndTab
import KE.SortKeyHeap
import HandS.Words
import HandS.Dict
import HandS.Iter
import HandS.DictSubView
import PyProof.DictMoreH
import HandS.Flow
import HandS.DictComp
import KE.KEqNest
import PyProof.DictCopy
import OpenK.KMake
import PyProof.InstNe
import HandS.RepeatKit
import PyProof.TupleOfSeq
import PyProof.Rows.Range3
import PyProof.MakeMany
import HandS.WideBits
import HandS.Star
import PySem.Challenge.RW_sameforms_k34_whole_a_book_or_a_bar
set_option Elab.async false
set_option linter.all false
set_option maxRecDepth 100000
namespace Xci
open PySem PySem.Spec PyProof.Rows L2
/-- what a tuple's walk begins with, and what counts it -/
def tupleWalkO (t : Addr) : Obj := { cls := .type "tuple_iterator", data := .fields #[.ref t, .int 0 0] }
def countO (walk : Addr) : Obj := { cls := .type "enumerate", data := .fields #[.none, .bool false, .ref walk, rawInt 0, .none, .none] }
abbrev counted (h : Heap) (t : Addr) : Heap := (h.push (tupleWalkO t)).push (countO h.objs.size)
theorem counted_kept {h : Heap} {t b : Addr} {o : Obj} (q : h.get? b = some o) : (counted h t).get? b = some o :=
  Heap.get?_push_of_some _ (Heap.get?_push_of_some _ q)
theorem counted_walk {h : Heap} {t : Addr} : (counted h t).IsTupleIter h.objs.size t 0 :=
  ⟨tupleWalkO t, Heap.get?_push_of_some _ (Heap.get?_push_size _ rfl), rfl, rfl⟩
theorem counted_at {h : Heap} {t : Addr} : IsEnum (counted h t) (h.objs.size + 1) h.objs.size 0 .none := by
  have q : (counted h t).get? (h.push (tupleWalkO t)).objs.size = some (countO h.objs.size) := Heap.get?_push_size _ rfl
  rw [Heap.size_push] at q
  exact q
set_option maxHeartbeats 1000000 in
theorem count_new (t : Addr) (items : Array Value) : Meets (Builtin.«enumerate.__new__» ⟨[.type "enumerate", .ref t], []⟩)
    (fun _ R s => s.heap.IsTuple t items ∧ R (.ok (.ret (.ref (s.heap.push (tupleWalkO t)).objs.size))) { s with heap := counted s.heap t }) :=
  .of_wp fun prog w A R s hs => by
    cases s
    have known := sub_enumerate
    have walk := fun {A' : Around} {E : Value → Shared → Prop} {Q : Value → Shared → Prop} (q : Q _ _) => (begins_tuple t items).iter prog w A' E _ Q hs.1 q
    wp_walk using walk
    refine wpAny_stack_any fun st => wpAny_pure ?_
    split
    case h_1 c _ _ _ _ _ => cases (c == Value.type "enumerate") <;> (wp_walk using walk; exact ⟨_, rfl, hs.2⟩)
    all_goals (wp_walk using walk; exact ⟨_, rfl, hs.2⟩)
theorem call_count {P : Program} {w : World} {A : Around} {E : Value → Shared → Prop} {s : Shared} {t : Addr} {items : Array Value} {Q : Value → Shared → Prop} (p : s.heap.IsTuple t items)
    (q : Q (.ref (s.heap.objs.size + 1)) { s with heap := counted s.heap t }) : wpAny (model P w) A (call (.type "enumerate") [.ref t]) Q E s := by
  refine callType_new F.called_enumerate (by decide) (F.typeCall_enumerate_1 _) (F.newCall_enumerate_1 _) (F.args_object_init_2 · _) F.entry_enumerate_new (count_new t items) ⟨p, ?_⟩
  rw [Heap.size_push]
  exact ⟨⟨_, counted_at, rfl⟩, q⟩
/-- item by item through the tuple at a, each told with its number in a new pair -/
def IteT (K : PySem.W.Frag) (a : Addr) : It where
  go i H := ∃ (xs : List V) (x : V), SqT K H a xs ∧ xs[i]? = some x
  yld i H v H' := ∃ T x, v = .ref T ∧ H T = none ∧ H' = upd H T (.tup [.int (i : Nat), x]) ∧ ∀ xs, SqT K H a xs → xs[i]? = some x
  stop i H := ∃ xs : List V, SqT K H a xs ∧ xs.length = i
/-- the walk stands ahead of number i -/
def StandsT (a e it : Addr) (i : Nat) (h : Heap) : Prop := (∃ old, IsEnum h e it (i : Int) old) ∧ h.IsTupleIter it a i
theorem turn_enumT {P : Program} {w : World} {K : PySem.W.Frag} {elts : List Expr} {kk : Nat} {tpos : Pos} {a e it : Addr} (h1 : a ≠ it) (h2 : a ≠ e) (h3 : e ≠ it) :
    Turn P w K (.Tuple elts kk tpos) (IteT K a) [e, it] e (StandsT a e it) where
  mem := List.mem_cons_self
  self A i s Q E st q := by
    obtain ⟨⟨_, at0⟩, _⟩ := st
    exact wpAny_pyIter_enum at0 q
  keep i h h' st k := by
    obtain ⟨⟨v, at0⟩, at1⟩ := st
    exact ⟨⟨v, k e List.mem_cons_self _ at0⟩, at1.at fun o => k it (List.mem_cons_of_mem _ List.mem_cons_self) o⟩
  obj i h st b hb := by
    obtain ⟨⟨_, at0⟩, o, at1, _, dat⟩ := st
    rcases List.mem_cons.mp hb with rfl | hb
    · exact ⟨_, at0, nofun⟩
    · cases List.mem_singleton.mp hb
      exact ⟨o, at1, fun v z => nomatch dat.symm.trans z⟩
  item X eP eW eK calm i pins s σ H E I free st now := by
    subst eP; subst eW; subst eK
    obtain ⟨xs, x, sq, hx⟩ := now
    obtain ⟨its, vals, tup, _⟩ := I.tuple sq
    obtain ⟨u, hu, ru⟩ := vals.get hx
    have W := WalksT.enumerateD (Draws.tuple (prog := X.prog) (w := X.w) (A := X.A.in1) (show X.A.in1.handled = none from I.ok.hd calm) it a h1 its.toArray) e h3
      (fun z => (List.mem_cons.mp z).elim h3 fun z => h2 (List.mem_singleton.mp z).symm) List.mem_cons_self
    refine W.item i s _ E (by rw [List.size_toArray]; exact (List.getElem?_eq_some_iff.mp hu).1) ⟨st.1, st.2, tup⟩ fun T row h' tk told hT rowT mid kept => ⟨_, rfl, W.go elts kk tpos i T _ _ E mid fun h'' st' kept' => ?_⟩
    obtain ⟨t, y, hy, rfl⟩ := told
    obtain rfl : y = u := Option.some.inj (hy.symm.trans (by rw [List.getElem?_toArray]; exact hu))
    have out := W.apart i T h' mid
    have row'' : h''.IsTuple T #[.int (i : Int) t, y] := rowT.at fun o => kept' T o out
    have J := I.turnedNew (t' := tk) (fun b o nb q => kept' b o nb (kept b o nb q)) free hT (ob := .tup [.int (i : Int), x]) ⟨by show 2 ≤ sizeLine; decide, _, .cons ⟨t, rfl⟩ (.cons ru .nil), row''⟩
    refine ⟨.ref T, _, J, rfl, ⟨T, x, rfl, I.hok.fresh hT, rfl, fun ys sq' => I.tuple_inj sq' sq ▸ hx⟩, ⟨?_, st'.2.1⟩, fun b hb => ?_⟩
    · obtain ⟨⟨v, z⟩, _⟩ := st'
      exact ⟨v, z⟩
    · rw [upd_ne fun z : b = T => out (z ▸ hb)]
      exact (free b hb).1
  done X eP eW eK calm i pins s σ H E I free st now := by
    subst eP; subst eW; subst eK
    obtain ⟨xs, sq, rfl⟩ := now
    obtain ⟨its, vals, tup, _⟩ := I.tuple sq
    obtain ⟨⟨v, at0⟩, at1⟩ := st
    rw [vals.length, ← List.size_toArray] at at0 at1
    obtain ⟨n, l, c1, c2, c3, c4⟩ := free it (List.mem_cons_of_mem _ List.mem_cons_self)
    exact wpAny_pyNext_enum_endD (Draws.tuple (prog := X.prog) (w := X.w) (A := X.A.in1) (show X.A.in1.handled = none from I.ok.hd calm) it a h1 its.toArray) at0 ⟨at1, tup⟩ fun h' k => ⟨rfl, I.turned (t' := s.toks) k n l c2 c3 c4⟩
/-- enumerate(a tuple) -/
def iEnumT (K : PySem.W.Frag) (ta : TA) : TI := fun σ H R => ta σ H fun vs H1 => ∃ a xs, vs = [.ref a] ∧ SqT K H1 a xs ∧ R (IteT K a) H1
theorem pi_enumT {X : Cx} {e : Expr} {ta : TA} {p pos tpos : Pos} {elts : List Expr} {kk : Nat} (hg : Gl X "enumerate") (hm : X.mg "enumerate" = none) (ha : PA X [e] ta) (hs : starEach [e] X.env = [(false, eval e X.env)] := by rfl) :
    PI X (.Tuple elts kk tpos) (.Call (.Name "enumerate" p) [e] [] pos) (iEnumT X.K ta) where
  run pins s σ H R I h := Call_ (ld_blt I hg hm boot_enumerate (PyProof.Rows.callWith_type1 (thn (ha.run pos pins s σ H _ I h) fun us s1 ⟨vs, H1, I1, rs, a, xs, one, sq, q⟩ => by
    subst one
    rw [Vals.ref1 rs]
    obtain ⟨its, _, tup, _⟩ := I1.tuple sq
    obtain ⟨o, lo, _⟩ := id tup
    have la := Heap.lt_size lo
    refine call_count tup (wpAny_pyIter_enum counted_at ⟨s1.heap.objs.size + 1, [s1.heap.objs.size + 1, s1.heap.objs.size], StandsT a _ _, _, H1, rfl, I1.kept (t' := s1.toks) fun _ _ => counted_kept,
      turn_enumT (Nat.ne_of_lt la) (Nat.ne_of_lt (Nat.lt_succ_of_lt la)) (Nat.succ_ne_self _), ⟨⟨_, counted_at⟩, counted_walk⟩, fun b hb => ?_, q⟩)
    have lb : s1.heap.objs.size ≤ b := (List.mem_cons.mp hb).elim (fun z => z ▸ Nat.le_succ _) fun z => (List.mem_singleton.mp z) ▸ Nat.le_refl _
    exact I1.fpOk lb (I1.hok.fresh lb)) hs rfl))
end Xci

namespace Xci
open PySem PySem.Spec PyProof.Rows L2
section
variable {P : Program} {w : World} {K : PySem.W.Frag} {mg : Str → Option Value} {base : Heap}
/-- what stands under the name x keeps the promise sp -/
structure Has (P : Program) (w : World) (K : PySem.W.Frag) (mg : Str → Option Value) (base : Heap) (x : Str) (ps : List Str) (k : Nat) (sp : Sp) : Prop where
  ex : ∃ (f : Addr) (fd : FuncData), FnOk P w K mg base CX0 k f fd ps sp ∧ mg x = some (.ref f) ∧ PySem.W.keepIn K (.ref f) = true ∧ Binds K fd ps []
end
theorem pe_callH {X : Cx} {x : Str} {ps : List Str} {k : Nat} {sp : Sp} {e : Expr} {es : List Expr} {t : TA} {p pos : Pos} (h : Has X.prog X.w X.K X.mg X.base x ps k sp) (hr : Room k X.A) (hg : Gl X x)
    (ha : PA X (e :: es) t) (hdb : (x == ("__debug__" : Str)) = false := by decide) (he : starEach (e :: es) X.env = (false, eval e X.env) :: starEach es X.env := by rfl) (hpl : (backTo pos (starEach es X.env)).any (·.1) = false := by rfl) :
    PE X (.Call (.Name x p) (e :: es) [] pos) (tCall sp [] E0 t) := by
  obtain ⟨f, fd, F, m, kp, b⟩ := h.ex
  exact pe_call F hr hg m kp b .nil pass0 ha hdb he hpl
/-- the class that stands under the name x, its __init__ keeping the promise sp -/
structure HasC (P : Program) (w : World) (K : PySem.W.Frag) (mg : Str → Option Value) (base : Heap) (x : Str) (C : Addr) (ps : List Str) (k : Nat) (sp : Sp) : Prop where
  ex : ∃ (f : Addr) (fd : FuncData), FnOk P w K mg base CX0 k f fd ps sp ∧ L2.Mk K C f ∧ mg x = some (.ref C) ∧ Binds K fd ps []
theorem pe_makeH {X : Cx} {x : Str} {C : Addr} {ps : List Str} {k : Nat} {sp : Sp} {e : Expr} {es : List Expr} {t : TA} {p pos : Pos} (h : HasC X.prog X.w X.K X.mg X.base x C ps k sp) (hr : Room (k + 1) X.A) (hg : Gl X x)
    (ha : PA X (e :: es) t) (hdb : (x == ("__debug__" : Str)) = false := by decide) (he : starEach (e :: es) X.env = (false, eval e X.env) :: starEach es X.env := by rfl) (hpl : (backTo pos (starEach es X.env)).any (·.1) = false := by rfl) :
    PE X (.Call (.Name x p) (e :: es) [] pos) (tMake C sp [] E0 t) := by
  obtain ⟨f, fd, F, M, m, b⟩ := h.ex
  exact pe_make M F hr hg m b .nil pass0 ha hdb he hpl
/-- all but what stands at a is kept -/
def Fr (a : Addr) (H H' : Hp) : Prop := ∀ b o, H b = some o → b ≠ a → H' b = some o
theorem Fr.refl (a : Addr) (H : Hp) : Fr a H H := fun _ _ h _ => h
theorem Fr.trans {a : Addr} {H H1 H2 : Hp} (f : Fr a H H1) (g : Fr a H1 H2) : Fr a H H2 := fun b o h n => g b o (f b o h n) n
theorem Fr.same {a : Addr} {H H' : Hp} (f : Same H H') : Fr a H H' := fun b o h _ => f b o h
theorem Fr.at {a : Addr} {H : Hp} {o : HO} : Fr a H (upd H a o) := fun b u h n => by rw [upd_ne n]; exact h
theorem Fr.new {a p : Addr} {H : Hp} {o : HO} (h : H p = Option.none) : Fr a H (upd H p o) := fun b u e _ => by rw [upd_ne (ne_of_none e h)]; exact e
theorem Same.new {p : Addr} {H : Hp} {o : HO} (h : H p = Option.none) : Same H (upd H p o) := fun b u e => by rw [upd_ne (ne_of_none e h)]; exact e
/-- an address that stood nowhere before, behind a frame that keeps all but a -/
theorem Fr.free {a : Addr} {H H' : Hp} (f : Fr a H H') {o : HO} (ha : H a = some o) {p : Addr} (h : H' p = Option.none) (ha' : ∃ o', H' a = some o') : H p = Option.none := by
  cases q : H p with
  | none => rfl
  | some u =>
    by_cases e : p = a
    · subst e
      obtain ⟨o', z⟩ := ha'
      rw [z] at h; cases h
    · rw [f p u q e] at h; cases h
/-- the tuples are kept -/
def TFr (H H' : Hp) : Prop := ∀ p xs, H p = some (.tup xs) → H' p = some (.tup xs)
theorem TFr.refl (H : Hp) : TFr H H := fun _ _ h => h
theorem TFr.trans {H H1 H2 : Hp} (f : TFr H H1) (g : TFr H1 H2) : TFr H H2 := fun p xs h => g p xs (f p xs h)
theorem TFr.same {H H' : Hp} (f : Same H H') : TFr H H' := fun p xs h => f p _ h
theorem TFr.new {p : Addr} {H : Hp} {o : HO} (h : H p = Option.none) : TFr H (upd H p o) := TFr.same (Same.new h)
theorem TFr.lst {p : Addr} {H : Hp} {o : HO} {ys : List V} (h : H p = some (.lst ys)) : TFr H (upd H p o) := fun q xs e => by
  rw [upd_ne (ne_of e h (by intro z; cases z))]; exact e
theorem TFr.fr {a : Addr} {H H' : Hp} {ys : List V} (h : H a = some (.lst ys)) (f : Fr a H H') : TFr H H' := fun q xs e => f q _ e (ne_of e h (by intro z; cases z))
/-- v is a tuple of xs -/
def Tup (H : Hp) (v : V) (xs : List V) : Prop := ∃ p, v = .ref p ∧ H p = some (.tup xs)
theorem Tup.keep {H H' : Hp} {v : V} {xs : List V} (f : TFr H H') (t : Tup H v xs) : Tup H' v xs := by
  obtain ⟨p, e, h⟩ := t
  exact ⟨p, e, f p xs h⟩
/-- the deck that the law draws from, and its own list at l: nothing is known of its five items but that the numbers are in bounds -/
def Deck (H : Hp) (a l : Addr) : Prop := ∃ (ns : List Int) (i c n s : Int), H a = some (.lst [.ref l, .int i, .int c, .int n, .int s]) ∧ H l = some (.lst (ns.map V.int)) ∧ a ≠ l ∧ (∀ z ∈ ns, 0 ≤ z) ∧ 0 ≤ i ∧ i ≤ (ns.length : Int) ∧ 0 ≤ c ∧ 0 ≤ s ∧ s < 2147483647
theorem Deck.is {H : Hp} {a l : Addr} (d : Deck H a l) : ∃ ys, H a = some (.lst ys) := by
  obtain ⟨ns, i, c, n, s, h, _⟩ := d
  exact ⟨_, h⟩
theorem Deck.is' {H : Hp} {a l : Addr} (d : Deck H a l) : ∃ ys, H l = some (.lst ys) := by
  obtain ⟨ns, i, c, n, s, _, h, _⟩ := d
  exact ⟨_, h⟩
theorem Deck.tfr {H H' : Hp} {a l : Addr} (d : Deck H a l) (f : Fr a H H') : TFr H H' := by
  obtain ⟨ys, h⟩ := d.is
  exact TFr.fr h f
theorem Deck.keep {H H' : Hp} {a l : Addr} (d : Deck H a l) (f : Same H H') : Deck H' a l := by
  obtain ⟨ns, i, c, n, s, h, hl, r⟩ := d
  exact ⟨ns, i, c, n, s, f _ _ h, f _ _ hl, r⟩
/-- a store at q, which is neither the deck nor its list -/
theorem Deck.put {H : Hp} {a l q : Addr} {o : HO} (d : Deck H a l) (n1 : q ≠ a) (n2 : q ≠ l) : Deck (upd H q o) a l := by
  obtain ⟨ns, i, c, n, s, h, hl, r⟩ := d
  exact ⟨ns, i, c, n, s, by rw [upd_ne n1.symm]; exact h, by rw [upd_ne n2.symm]; exact hl, r⟩
/-- q was free when the deck stood -/
theorem Deck.ne {H : Hp} {a l q : Addr} (d : Deck H a l) (h : H q = Option.none) : q ≠ a := by
  obtain ⟨ys, z⟩ := d.is
  exact (ne_of_none z h).symm
theorem Deck.ne' {H : Hp} {a l q : Addr} (d : Deck H a l) (h : H q = Option.none) : q ≠ l := by
  obtain ⟨ys, z⟩ := d.is'
  exact (ne_of_none z h).symm
/-- what is free behind a draw was free ahead of it -/
theorem Deck.free {H H' : Hp} {a l q : Addr} (d : Deck H' a l) (f : Fr a H H') (h : H' q = Option.none) : H q = Option.none := by
  have n := d.ne h
  cases e : H q with
  | none => rfl
  | some u => rw [f q u e n] at h; cases h
def spTake : Sp := fun vs H Q _ => ∃ (a l : Addr) (m : Int), vs = [.ref a, .int m] ∧ Deck H a l ∧ 0 < m ∧ m < 1073741824 ∧ ∀ (d : Int) (H' : Hp), 0 ≤ d → d < m → Deck H' a l → Fr a H H' → (∀ b, b ≠ a → H' b = H b) → Q (.int d) H'
theorem pe_gint {X : Cx} {x : Str} {i : Int} {t : Tok} {pos : Pos} (hg : Gl X x) (hm : X.mg x = some (.int i t)) (hd : (x == ("__debug__" : Str)) = false := by decide) : PE X (.Name x pos) (tC (.int i)) := pe_glob (v := .int i) hg hm ⟨t, rfl⟩ hd
theorem walk_enumT {K : PySem.W.Frag} {a : Addr} {xs : List V} : Walk (IteT K a) xs.length (fun H => SqT K H a xs) (fun i H v H' => ∃ T x, v = .ref T ∧ H T = none ∧ H' = upd H T (.tup [.int (i : Nat), x]) ∧ xs[i]? = some x) :=
  ⟨fun i H hi q => ⟨xs, xs[i], q, List.getElem?_eq_getElem hi⟩, fun H q => ⟨xs, q, rfl⟩, fun i H v H' hi q ⟨T, x, e1, e2, e3, f⟩ => ⟨T, x, e1, e2, e3, f xs q⟩⟩
theorem call_lenK {X : Cx} : CallR X (.builtin "len") (rLen X.K) := call_len
def rTupOf (K : PySem.W.Frag) : List V → Hp → VK → Prop := fun xs H Q => ∃ p ys, xs = [.ref p] ∧ ((SqL K H p ys ∧ ∀ l, H l = none → Q (.ref l) (upd H l (.tup ys))) ∨ (SqT K H p ys ∧ Q (.ref p) H))
theorem call_tupleK {X : Cx} : CallR X (.type "tuple") (rTupOf X.K) := call_tuple_of
def rListOf (K : PySem.W.Frag) : List V → Hp → VK → Prop := fun xs H Q => ∃ p ys, xs = [.ref p] ∧ (SqL K H p ys ∨ SqT K H p ys) ∧ ∀ l, H l = none → Q (.ref l) (upd H l (.lst ys))
theorem call_listK {X : Cx} : CallR X (.type "list") (rListOf X.K) := call_list_of
theorem hu64 {A : Around} {k : Nat} (hr : Room k A) : A.units + 64 < cLine := by have := hr.un; omega
/-- the names that the top leaves to the built-ins -/
structure Txt (mg : Str → Option Value) : Prop where
  len : mg "len" = none
  int : mg "int" = none
  abs : mg "abs" = none
  list : mg "list" = none
  tuple : mg "tuple" = none
  range : mg "range" = none
  min : mg "min" = none
  isinstance : mg "isinstance" = none
  enumerate : mg "enumerate" = none
  bool : mg "bool" = none
  str : mg "str" = none
  all : mg "all" = none
  any : mg "any" = none
  sum : mg "sum" = none
  max : mg "max" = none
  sorted : mg "sorted" = none
  zip : mg "zip" = none
  set : mg "set" = none
end Xci

namespace Xci
open PySem L2
def top (i : Nat) : Stmt := PySem.Challenge.pw_sameforms_k34_whole_a_book_or_a_bar.main.body.getD i (.Pass ⟨0, 0, 0, 0⟩)
end Xci

namespace Xci
open PySem L2
/-! ### data and promises of the law's draws -/
def Sq (K : PySem.W.Frag) (H : Hp) (p : Addr) (xs : List V) : Prop := SqL K H p xs ∨ SqT K H p xs
theorem Sq.fr {K : PySem.W.Frag} {a p : Addr} {H H' : Hp} {xs : List V} (s : Sq K H p xs) (f : Fr a H H') (n : p ≠ a) : Sq K H' p xs := by
  rcases s with ((h | ⟨o, h⟩) | h) | ((h | ⟨o, h⟩) | h)
  · exact .inl (.inl (.inl (f _ _ h n)))
  · exact .inl (.inl (.inr ⟨o, f _ _ h n⟩))
  · exact .inl (.inr h)
  · exact .inr (.inl (.inl (f _ _ h n)))
  · exact .inr (.inl (.inr ⟨o, f _ _ h n⟩))
  · exact .inr (.inr h)
theorem Sq.tup {K : PySem.W.Frag} {H : Hp} {p : Addr} {xs : List V} (h : H p = some (.tup xs)) : Sq K H p xs := .inr (.inl (.inl h))
theorem Sq.lst {K : PySem.W.Frag} {H : Hp} {p : Addr} {xs : List V} (h : H p = some (.lst xs)) : Sq K H p xs := .inl (.inl (.inl h))
theorem sqT {K : PySem.W.Frag} {H : Hp} {p : Addr} {xs : List V} (h : H p = some (.tup xs)) : SqT K H p xs := .inl (.inl h)
theorem sqT_same {K : PySem.W.Frag} {H H' : Hp} {p : Addr} {xs : List V} (s : SqT K H p xs) (f : Same H H') : SqT K H' p xs := by
  rcases s with (h | ⟨o, h⟩) | h
  · exact .inl (.inl (f _ _ h))
  · exact .inl (.inr ⟨o, f _ _ h⟩)
  · exact .inr h
/-- tracked: a list or a tuple of xs at p -/
def Sq0 (H : Hp) (p : Addr) (xs : List V) : Prop := H p = some (.lst xs) ∨ H p = some (.tup xs)
theorem Sq0.fr {a p : Addr} {H H' : Hp} {xs : List V} (s : Sq0 H p xs) (f : Fr a H H') (n : p ≠ a) : Sq0 H' p xs := s.imp (fun h => f _ _ h n) (fun h => f _ _ h n)
theorem Sq0.same {p : Addr} {H H' : Hp} {xs : List V} (s : Sq0 H p xs) (f : Same H H') : Sq0 H' p xs := s.imp (fun h => f _ _ h) (fun h => f _ _ h)
theorem Sq0.put {p q : Addr} {H : Hp} {o : HO} {xs : List V} (s : Sq0 H p xs) (n : p ≠ q) : Sq0 (upd H q o) p xs := s.imp (fun h => by rw [upd_ne n]; exact h) (fun h => by rw [upd_ne n]; exact h)
theorem Sq0.sq {K : PySem.W.Frag} {p : Addr} {H : Hp} {xs : List V} (s : Sq0 H p xs) : Sq K H p xs := s.elim Sq.lst Sq.tup
theorem Sq0.ne {p q : Addr} {H : Hp} {xs : List V} (s : Sq0 H p xs) (h : H q = Option.none) : p ≠ q := s.elim (fun e => ne_of_none e h) (fun e => ne_of_none e h)
structure WordOk (z : Str) : Prop where
  lo : 1 ≤ z.length
  hi : z.length ≤ 8
  az : ∀ c ∈ z.cps.toList, 97 ≤ c ∧ c ≤ 122
structure MarksOk (n : Int) (ms : List Int) : Prop where
  up : ms.Pairwise (· < ·)
  lo : ∀ m ∈ ms, 0 ≤ m
  hi : ∀ m ∈ ms, m < n
theorem MarksOk.sub {n : Int} {ms ks : List Int} (h : MarksOk n ms) (s : ks.Sublist ms) : MarksOk n ks := ⟨h.up.sublist s, fun m q => h.lo m (s.subset q), fun m q => h.hi m (s.subset q)⟩
theorem MarksOk.le {n n' : Int} {ms : List Int} (h : MarksOk n ms) (l : n ≤ n') : MarksOk n' ms := ⟨h.up, h.lo, fun m q => by have := h.hi m q; omega⟩
/-- v is a tuple of the ints ms -/
abbrev Mk (H : Hp) (v : V) (ms : List Int) : Prop := Tup H v (ms.map V.int)
theorem Mk.keep {H H' : Hp} {v : V} {ms : List Int} (f : TFr H H') (t : Xci.Mk H v ms) : Xci.Mk H' v ms := Tup.keep f t
/-- the tuples of ints vs -/
abbrev Mks (H : Hp) (vs : List V) (cs : List (List Int)) : Prop := Paired (fun v ms => Xci.Mk H v ms) vs cs
theorem Mks.keep {H H' : Hp} {vs : List V} {cs : List (List Int)} (f : TFr H H') (t : Mks H vs cs) : Mks H' vs cs := Paired.mapP t fun _ _ h => Tup.keep f h
theorem Paired.get {α β : Type} {F : α → β → Prop} : ∀ {xs : List α} {ys : List β} {i : Nat} {x : α}, Paired F xs ys → xs[i]? = some x → ∃ y, ys[i]? = some y ∧ F x y
  | _, _, _, _, .nil, e => by simp at e
  | _, _, 0, _, .cons r _, e => by simp at e; subst e; exact ⟨_, rfl, r⟩
  | _, _, i + 1, x, .cons _ t, e => by
    obtain ⟨u, h1, h2⟩ := Paired.get (i := i) (x := x) t (by simpa using e)
    exact ⟨u, by simpa using h1, h2⟩
theorem Paired.get' {α β : Type} {F : α → β → Prop} : ∀ {xs : List α} {ys : List β} {i : Nat} {y : β}, Paired F xs ys → ys[i]? = some y → ∃ x, xs[i]? = some x ∧ F x y
  | _, _, _, _, .nil, e => by simp at e
  | _, _, 0, _, .cons r _, e => by simp at e; subst e; exact ⟨_, rfl, r⟩
  | _, _, i + 1, x, .cons _ t, e => by
    obtain ⟨u, h1, h2⟩ := Paired.get' (i := i) (y := x) t (by simpa using e)
    exact ⟨u, by simpa using h1, h2⟩
theorem Paired.app {α β : Type} {F : α → β → Prop} : ∀ {xs xs' : List α} {ys ys' : List β}, Paired F xs ys → Paired F xs' ys' → Paired F (xs ++ xs') (ys ++ ys')
  | _, _, _, _, .nil, s => s
  | _, _, _, _, .cons r t, s => .cons r (Paired.app t s)
theorem Paired.one {α β : Type} {F : α → β → Prop} {x : α} {y : β} (h : F x y) : Paired F [x] [y] := .cons h .nil
theorem Paired.take {α β : Type} {F : α → β → Prop} : ∀ {xs : List α} {ys : List β} (n : Nat), Paired F xs ys → Paired F (xs.take n) (ys.take n)
  | _, _, 0, _ => .nil
  | _, _, _ + 1, .nil => .nil
  | _, _, n + 1, .cons r t => .cons r (Paired.take n t)
theorem Paired.perm {α β : Type} {F : α → β → Prop} {xs xs' : List α} (p : xs'.Perm xs) : ∀ {ys : List β}, Paired F xs ys → ∃ ys', Paired F xs' ys' ∧ ys'.Perm ys := by
  induction p with
  | nil => intro ys h; exact ⟨ys, h, .refl _⟩
  | cons x _ ih =>
    intro ys h
    cases h with
    | cons r t =>
      obtain ⟨ys', h', p'⟩ := ih t
      exact ⟨_, .cons r h', p'.cons _⟩
  | swap x y l =>
    intro ys h
    cases h with
    | cons r t =>
      cases t with
      | cons r' t' => exact ⟨_, .cons r' (.cons r t'), .swap _ _ _⟩
  | trans _ _ ih1 ih2 =>
    intro ys h
    obtain ⟨y1, h1, p1⟩ := ih2 h
    obtain ⟨y2, h2, p2⟩ := ih1 h1
    exact ⟨y2, h2, p2.trans p1⟩
/-- the rest of a list, by the removal of one -/
theorem perm_erase {α : Type} : ∀ {xs : List α} {k : Nat} {y : α}, xs[k]? = some y → (xs.eraseIdx k ++ [y]).Perm xs
  | [], _, _, h => by simp at h
  | a :: r, 0, y, h => by
    have e : a = y := Option.some.inj h
    subst e
    exact List.perm_append_singleton _ _
  | a :: r, k + 1, y, h => by
    have ih := perm_erase (xs := r) (k := k) (y := y) h
    exact ih.cons a
def lots (ns : List Int) : List (List Int) := ns.foldl (fun acc x => acc ++ acc.map (· ++ [x])) [[]]
theorem lots_snoc (ns : List Int) (x : Int) : lots (ns ++ [x]) = lots ns ++ (lots ns).map (· ++ [x]) := by
  unfold lots
  rw [List.foldl_append]
  rfl
theorem snoc_ind {α : Type} {M : List α → Prop} (h0 : M []) (h1 : ∀ l x, M l → M (l ++ [x])) : ∀ l, M l := by
  have : ∀ l : List α, M l.reverse := by
    intro l
    induction l with
    | nil => exact h0
    | cons x l ih => rw [List.reverse_cons]; exact h1 _ _ ih
  intro l
  have q := this l.reverse
  rw [List.reverse_reverse] at q
  exact q
theorem lots_len (ns : List Int) : (lots ns).length = 2 ^ ns.length := by
  refine snoc_ind (M := fun ns => (lots ns).length = 2 ^ ns.length) rfl (fun l x ih => ?_) ns
  rw [lots_snoc, List.length_append, List.length_map, List.length_append, ih, List.length_singleton, Nat.pow_succ]
  omega
theorem lots_sub {ns ms : List Int} : ms ∈ lots ns → ms.Sublist ns := by
  refine snoc_ind (M := fun ns => ∀ ms, ms ∈ lots ns → ms.Sublist ns) (fun ms h => ?_) (fun l x ih ms h => ?_) ns ms
  · have : ms = [] := by simpa [lots] using h
    subst this
    exact .slnil
  · rw [lots_snoc] at h
    rcases List.mem_append.mp h with h | h
    · exact (ih ms h).trans (List.sublist_append_left _ _)
    · obtain ⟨k, hk, rfl⟩ := List.mem_map.mp h
      exact (ih k hk).append_right _
theorem lots_nd {ns : List Int} (h : ns.Nodup) : (lots ns).Nodup := by
  revert h
  refine snoc_ind (M := fun ns => ns.Nodup → (lots ns).Nodup) (fun _ => by decide) (fun l x ih h => ?_) ns
  obtain ⟨h1, _, h3⟩ := List.nodup_append.mp h
  rw [lots_snoc]
  refine List.nodup_append.mpr ⟨ih h1, ?_, fun a ha b hb e => ?_⟩
  · unfold List.Nodup
    rw [List.pairwise_map]
    exact (ih h1).imp fun n e => n (List.append_cancel_right e)
  · obtain ⟨k, hk, rfl⟩ := List.mem_map.mp hb
    subst e
    have : x ∈ l := (lots_sub ha).subset (by simp)
    exact h3 x this x (by simp) rfl
def spDeck (K : PySem.W.Frag) : Sp := fun vs H Q _ => ∃ (a : Addr) (ns : List Int), vs = [.ref a] ∧ SqL K H a (ns.map V.int) ∧ ns.length ≤ 63 ∧ ∀ (d l : Addr) (H' : Hp), Deck H' d l → Same H H' → Q (.ref d) H'
def spMixed (K : PySem.W.Frag) : Sp := fun vs H Q _ => ∃ (a l p : Addr) (xs : List V), vs = [.ref a, .ref p] ∧ Deck H a l ∧ Sq K H p xs ∧ xs.length ≤ 1000 ∧
  ∀ (q : Addr) (ys : List V) (H' : Hp), ys.Perm xs → H' q = some (.lst ys) → H q = Option.none → Deck H' a l → Fr a H H' → Q (.ref q) H'
def spWord : Sp := fun vs H Q _ => ∃ a l : Addr, vs = [.ref a] ∧ Deck H a l ∧ ∀ (z : Str) (H' : Hp), WordOk z → Deck H' a l → Fr a H H' → Q (.str z) H'
def spWords : Sp := fun vs H Q _ => ∃ (a l : Addr) (m : Int), vs = [.ref a, .int m] ∧ Deck H a l ∧ 0 < m ∧ m ≤ 1000 ∧
  ∀ (q : Addr) (zs : List Str) (H' : Hp), zs ≠ [] → (zs.length : Int) ≤ m → zs.Nodup → (∀ z ∈ zs, WordOk z) → H' q = some (.lst (zs.map V.str)) → H q = Option.none → Deck H' a l → Fr a H H' → Q (.ref q) H'
def spLots (K : PySem.W.Frag) : Sp := fun vs H Q _ => ∃ (p : Addr) (ns : List Int), vs = [.ref p] ∧ SqT K H p (ns.map V.int) ∧ ns.length ≤ 6 ∧
  ∀ (q : Addr) (ys : List V) (H' : Hp), H' q = some (.lst ys) → Mks H' ys (lots ns) → Same H H' → H q = Option.none → Q (.ref q) H'
structure FamOk (many : Int) (cells : List (List Int)) : Prop where
  lo : 0 ≤ many
  hi : many ≤ 6
  ne : cells ≠ []
  len : cells.length ≤ 24
  nd : cells.Nodup
  ok : ∀ c ∈ cells, MarksOk many c
def spFamily : Sp := fun vs H Q _ => ∃ a l : Addr, vs = [.ref a] ∧ Deck H a l ∧
  ∀ (v : V) (p : Addr) (many : Int) (ys : List V) (cells : List (List Int)) (H' : Hp), Tup H' v [.int many, .ref p] → H' p = some (.tup ys) → Mks H' ys cells → FamOk many cells → Deck H' a l → Fr a H H' → Q v H'
def spMarks (K : PySem.W.Frag) : Sp := fun vs H Q _ => ∃ (a l p : Addr) (ys : List V) (cells : List (List Int)), vs = [.ref a, .ref p] ∧ Deck H a l ∧ p ≠ a ∧ Sq0 H p ys ∧ Mks H ys cells ∧ cells ≠ [] ∧ cells.length ≤ 1000 ∧ (∀ c ∈ cells, MarksOk 6 c) ∧
  ∀ (v : V) (ms : List Int) (H' : Hp), Xci.Mk H' v ms → MarksOk 6 ms → Deck H' a l → Fr a H H' → Q v H'
abbrev Ent : Type := List Int × Str
def EntV (H : Hp) (v : V) (e : Ent) : Prop := ∃ u, Tup H v [u, .str e.2] ∧ Xci.Mk H u e.1
theorem EntV.keep {H H' : Hp} {v : V} {e : Ent} (f : TFr H H') (t : EntV H v e) : EntV H' v e := by
  obtain ⟨u, h, g⟩ := t
  exact ⟨u, h.keep f, Tup.keep f g⟩
structure EntOk (e : Ent) : Prop where
  ms : MarksOk 6 e.1
  w : WordOk e.2
abbrev Ents (H : Hp) (vs : List V) (es : List Ent) : Prop := Paired (fun v e => EntV H v e) vs es
theorem Ents.keep {H H' : Hp} {vs : List V} {es : List Ent} (f : TFr H H') (t : Ents H vs es) : Ents H' vs es := Paired.mapP t fun _ _ h => EntV.keep f h
def spEntries (K : PySem.W.Frag) : Sp := fun vs H Q _ => ∃ (a l p q : Addr) (ys : List V) (cells : List (List Int)) (zs : List Str) (m : Int), vs = [.ref a, .ref p, .ref q, .int m] ∧ Deck H a l ∧ p ≠ a ∧ Sq0 H p ys ∧ Mks H ys cells ∧ cells ≠ [] ∧ cells.length ≤ 1000 ∧ (∀ c ∈ cells, MarksOk 6 c) ∧
  H q = some (.lst (zs.map V.str)) ∧ q ≠ a ∧ zs ≠ [] ∧ zs.length ≤ 1000 ∧ (∀ z ∈ zs, WordOk z) ∧ 0 ≤ m ∧ m ≤ 1000 ∧
  ∀ (r : Addr) (vs' : List V) (es : List Ent) (H' : Hp), H' r = some (.tup vs') → Ents H' vs' es → (es.length : Int) ≤ m → (∀ e ∈ es, EntOk e) → Deck H' a l → Fr a H H' → Q (.ref r) H'
theorem int_of {ns : List Int} {i : Nat} {y : V} (h : (ns.map V.int)[i]? = some y) : ∃ z, ns[i]? = some z ∧ y = V.int z := by
  rw [List.getElem?_map] at h
  cases e : ns[i]? with
  | none => rw [e] at h; cases h
  | some z => rw [e] at h; exact ⟨z, rfl, (Option.some.inj h).symm⟩
theorem mod_bd (x : Int) {m : Int} (h : 0 < m) : 0 ≤ x % m ∧ x % m < m := ⟨Int.emod_nonneg _ (by omega), Int.emod_lt_of_pos _ h⟩
theorem cut63 (ns : List Int) : cutV (ns.map V.int) none (some 63) = (ns.take 63).map V.int := by
  unfold cutV
  have e0 : HT.sIx (ns.map V.int).length 0 none = 0 := rfl
  rw [e0]
  have e1 : HT.sIx (ns.map V.int).length (ns.map V.int).length (some 63) = min 63 ns.length := by
    unfold HT.sIx
    simp
    try omega
  rw [e1, List.drop_zero, List.map_take]
  simp only [Nat.sub_zero]
  rw [Nat.min_comm]
  by_cases h : ns.length ≤ 63
  · rw [Nat.min_eq_left h, List.take_of_length_le (by simp), List.take_of_length_le (by simpa using h)]
  · rw [Nat.min_eq_right (by omega)]

def inside (ms ns : List Int) : Bool := ms.all fun m => decide (m ∈ ns)
theorem asc_len {n : Int} : ∀ {ms : List Int} {lo : Int}, ms.Pairwise (· < ·) → (∀ m ∈ ms, lo ≤ m ∧ m < n) → ms.length ≤ (n - lo).toNat
  | [], _, _, _ => Nat.zero_le _
  | m :: r, lo, hp, hb => by
    obtain ⟨h1, h2⟩ := List.pairwise_cons.mp hp
    have b := hb m (by simp)
    have ih := asc_len (n := n) (ms := r) (lo := m + 1) h2 fun k hk => ⟨by have := h1 k hk; omega, (hb k (List.mem_cons_of_mem _ hk)).2⟩
    rw [List.length_cons]
    omega
theorem MarksOk.len {n : Int} {ms : List Int} (h : MarksOk n ms) : ms.length ≤ n.toNat := by
  have := asc_len (n := n) (lo := 0) h.up fun m hm => ⟨h.lo m hm, h.hi m hm⟩
  simpa using this
theorem inV_int (m : Int) (ns : List Int) : inV (.int m) (ns.map V.int) = decide (m ∈ ns) := by
  unfold inV
  rw [List.any_map]
  induction ns with
  | nil => rfl
  | cons a r ih =>
    rw [List.any_cons, ih]
    show ((a == m) || decide (m ∈ r)) = decide (m ∈ a :: r)
    by_cases h : a = m
    · subst h; simp
    · have h' : ¬ m = a := fun e => h e.symm
      simp [h, h']
theorem inV_str (m : Str) (ns : List Str) : inV (.str m) (ns.map V.str) = decide (m ∈ ns) := by
  unfold inV
  rw [List.any_map]
  induction ns with
  | nil => rfl
  | cons a r ih =>
    rw [List.any_cons, ih]
    show ((a == m) || decide (m ∈ r)) = decide (m ∈ a :: r)
    by_cases h : a = m
    · subst h; simp
    · have h' : ¬ m = a := fun e => h e.symm
      simp [h, h']
theorem flat_ints (ns : List Int) : (ns.map V.int).all flatV = true := by
  rw [List.all_map]; exact List.all_eq_true.mpr fun _ _ => rfl
theorem flat_strs (ns : List Str) : (ns.map V.str).all flatV = true := by
  rw [List.all_map]; exact List.all_eq_true.mpr fun _ _ => rfl
theorem str_of {ns : List Str} {i : Nat} {y : V} (h : (ns.map V.str)[i]? = some y) : ∃ z, ns[i]? = some z ∧ y = V.str z := by
  rw [List.getElem?_map] at h
  cases e : ns[i]? with
  | none => rw [e] at h; cases h
  | some z => rw [e] at h; exact ⟨z, rfl, (Option.some.inj h).symm⟩
def rng (n : Int) : List Int := (List.range n.toNat).map fun i => ((i : Nat) : Int)
theorem rgV_rng (n : Int) : rgV 0 n = (rng n).map V.int := by
  unfold rgV rng
  rw [List.map_map, Int.sub_zero]
  refine List.map_congr_left fun i _ => ?_
  show V.int (0 + (i : Nat)) = V.int (i : Nat)
  rw [Int.zero_add]
theorem rng_len (n : Int) : (rng n).length = n.toNat := by unfold rng; rw [List.length_map, List.length_range]
theorem rng_ok (n : Int) : MarksOk n (rng n) := by
  refine ⟨?_, fun m hm => ?_, fun m hm => ?_⟩
  · unfold rng
    rw [List.pairwise_map]
    exact List.pairwise_lt_range.imp fun h => by omega
  · obtain ⟨i, hi, rfl⟩ := List.mem_map.mp hm
    omega
  · obtain ⟨i, hi, rfl⟩ := List.mem_map.mp hm
    have := List.mem_range.mp hi
    omega
theorem MarksOk.nd {n : Int} {ms : List Int} (h : MarksOk n ms) : ms.Nodup := h.up.imp fun h e => by omega
def spIn : Sp := fun vs H Q _ => ∃ (u v : V) (ms ns : List Int), vs = [u, v] ∧ Xci.Mk H u ms ∧ Xci.Mk H v ns ∧ ms.length ≤ 1000 ∧ ∀ H', Same H H' → Q (.bl (inside ms ns)) H'
end Xci

namespace Xci
open PySem L2
/-! ### books -/
/-- the numbers that the top has written -/
structure Cst (mg : Str → Option Value) where
  t1 : Tok
  t2 : Tok
  t3 : Tok
  t4 : Tok
  LONGEST_FORM : mg "LONGEST_FORM" = some (.int 8 t1)
  MARKS : mg "MARKS" = some (.int 6 t2)
  MOST_ENTRIES : mg "MOST_ENTRIES" = some (.int 40 t3)
  MOST_WEIGHT : mg "MOST_WEIGHT" = some (.int 1000000 t4)
/-- the class Book, the tuple of the manners -/
structure BkTxt (K : PySem.W.Frag) (mg : Str → Option Value) (C aM : Addr) : Prop where
  cl : Cls K C
  nM : NoAttr K C "manner"
  nE : NoAttr K C "entries"
  nW : NoAttr K C "weights"
  mgC : mg "Book" = some (.ref C)
  mgM : mg "MANNERS" = some (.ref aM)
  man : ∀ H : Hp, SqT K H aM [.str "row", .str "within", .str "weights", .str "most"]
def bf (man : Str) (p : Addr) (wt : V) : List (Str × V) := [("manner", .str man), ("entries", .ref p), ("weights", wt)]
theorem n_me : ¬ (("manner" : Str) = "entries") := by decide +kernel
theorem n_mw : ¬ (("manner" : Str) = "weights") := by decide +kernel
theorem n_ew : ¬ (("entries" : Str) = "weights") := by decide +kernel
theorem n_em : ¬ (("entries" : Str) = "manner") := by decide +kernel
theorem n_wm : ¬ (("weights" : Str) = "manner") := by decide +kernel
theorem n_we : ¬ (("weights" : Str) = "entries") := by decide +kernel
theorem put1 (v : V) : putF "manner" v [] = [(("manner" : Str), v)] := rfl
theorem put2 (v u : V) : putF "entries" u [(("manner" : Str), v)] = [(("manner" : Str), v), (("entries" : Str), u)] := by
  show (if ("manner" : Str) = "entries" then _ else (("manner" : Str), v) :: putF "entries" u []) = _
  rw [if_neg n_me]; rfl
theorem put3 (v u x : V) : putF "weights" x [(("manner" : Str), v), (("entries" : Str), u)] = [(("manner" : Str), v), (("entries" : Str), u), (("weights" : Str), x)] := by
  show (if ("manner" : Str) = "weights" then _ else (("manner" : Str), v) :: (if ("entries" : Str) = "weights" then _ else (("entries" : Str), u) :: putF "weights" x [])) = _
  rw [if_neg n_mw, if_neg n_ew]; rfl
theorem bf_manner (man : Str) (p : Addr) (wt : V) : (bf man p wt).lookup ("manner" : Str) = some (.str man) := by
  unfold bf
  rw [List.lookup_cons, show ((Str.ofString "manner" : Str) == Str.ofString "manner") = true from by decide +kernel]
theorem bf_entries (man : Str) (p : Addr) (wt : V) : (bf man p wt).lookup ("entries" : Str) = some (.ref p) := by
  unfold bf
  rw [List.lookup_cons, show ((Str.ofString "entries" : Str) == Str.ofString "manner") = false from by decide +kernel]
  rfl
theorem bf_weights (man : Str) (p : Addr) (wt : V) : (bf man p wt).lookup ("weights" : Str) = some wt := by
  unfold bf
  rw [List.lookup_cons, show ((Str.ofString "weights" : Str) == Str.ofString "manner") = false from by decide +kernel, List.lookup_cons, show ((Str.ofString "weights" : Str) == Str.ofString "entries") = false from by decide +kernel]
  rfl
def BookAt (C : Addr) (H : Hp) (b : Addr) (man : Str) (p : Addr) (wt : V) : Prop := ∃ dx, H b = some (.ins C dx (bf man p wt))
/-- the weights that go with the manner -/
def WtOk (H : Hp) (man : Str) (wt : V) : Prop := (man ≠ "weights" ∧ wt = .non) ∨ (man = "weights" ∧ ∃ ws : List Int, Xci.Mk H wt ws ∧ ws.length = 6 ∧ ∀ x ∈ ws, 0 ≤ x ∧ x ≤ 1000000)
theorem WtOk.keep {H H' : Hp} {man : Str} {wt : V} (f : TFr H H') (h : WtOk H man wt) : WtOk H' man wt := by
  rcases h with h | ⟨e, ws, m, r⟩
  · exact .inl h
  · exact .inr ⟨e, ws, Tup.keep f m, r⟩
def Man (man : Str) : Prop := man = "row" ∨ man = "within" ∨ man = "weights" ∨ man = "most"
def spIsInteger : Sp := fun vs H Q _ => ∃ i : Int, vs = [.int i] ∧ Q (.bl true) H
def spBetween : Sp := fun vs H Q _ => ∃ lo hi x : Int, vs = [.int lo, .int hi, .int x] ∧ Q (.bl (decide (lo ≤ x ∧ x ≤ hi))) H
def spIsCell : Sp := fun vs H Q _ => ∃ (n : Int) (v : V) (ms : List Int), vs = [.int n, v] ∧ Xci.Mk H v ms ∧ MarksOk n ms ∧ Q (.bl true) H
def spIsForm : Sp := fun vs H Q _ => ∃ z : Str, vs = [.str z] ∧ WordOk z ∧ Q (.bl true) H
def spLies : Sp := fun vs H Q _ => ∃ (u v : V) (ms ns : List Int), vs = [u, v] ∧ Xci.Mk H u ms ∧ Xci.Mk H v ns ∧ Q (.bl (inside ms ns)) H
def spIsEntry : Sp := fun vs H Q _ => ∃ (v : V) (e : Ent), vs = [v] ∧ EntV H v e ∧ EntOk e ∧ Q (.bl true) H
def spAreEntries : Sp := fun vs H Q _ => ∃ (p : Addr) (ys : List V) (es : List Ent), vs = [.ref p] ∧ H p = some (.tup ys) ∧ Ents H ys es ∧ (∀ e ∈ es, EntOk e) ∧ es.length ≤ 40 ∧ Q (.bl true) H
def spAreWeights : Sp := fun vs H Q _ => ∃ (man : Str) (wt : V), vs = [.str man, wt] ∧ WtOk H man wt ∧ Q (.bl true) H
def spBook (C : Addr) : Sp := fun vs H Q _ => ∃ (x dx : Addr) (man : Str) (p : Addr) (wt : V) (ys : List V) (es : List Ent), vs = [.ref x, .str man, .ref p, wt] ∧ H x = some (.ins C dx []) ∧ Man man ∧ WtOk H man wt ∧ H p = some (.tup ys) ∧ Ents H ys es ∧ (∀ e ∈ es, EntOk e) ∧ es.length ≤ 40 ∧
  ∀ H' : Hp, BookAt C H' x man p wt → (∀ b o, H b = some o → b ≠ x → H' b = some o) → Q .non H'
/-- the entries that fit a cell, by their numbers -/
def fitP (es : List Ent) (ms : List Int) (i : Nat) : Bool := match es[i]? with
  | some e => inside e.1 ms
  | none => false
def fitN (es : List Ent) (ms : List Int) : List Nat := (List.range es.length).filter (fitP es ms)
def nat2 (js : List Nat) : List Int := js.map fun j => ((j : Nat) : Int)
def spFits (K : PySem.W.Frag) : Sp := fun vs H Q _ => ∃ (p : Addr) (v : V) (ys : List V) (es : List Ent) (ms : List Int), vs = [.ref p, v] ∧ H p = some (.tup ys) ∧ Ents H ys es ∧ (∀ e ∈ es, EntOk e) ∧ es.length ≤ 1000 ∧ Xci.Mk H v ms ∧
  ∀ (q : Addr) (H' : Hp), H' q = some (.lst ((nat2 (fitN es ms)).map V.int)) → Same H H' → Q (.ref q) H'
def spFitting (C : Addr) : Sp := fun vs H Q _ => ∃ (b p : Addr) (man : Str) (wt v : V) (ys : List V) (es : List Ent) (ms : List Int), vs = [.ref b, v] ∧ BookAt C H b man p wt ∧ H p = some (.tup ys) ∧ Ents H ys es ∧ (∀ e ∈ es, EntOk e) ∧ es.length ≤ 40 ∧ Xci.Mk H v ms ∧ MarksOk 6 ms ∧
  ∀ (q : Addr) (H' : Hp), H' q = some (.tup ((nat2 (fitN es ms)).map V.int)) → Same H H' → Q (.ref q) H'
def hd1 : List Nat → V
  | [] => .non
  | j :: _ => .int (j : Int)
def spSpeakingRow (C : Addr) : Sp := fun vs H Q _ => ∃ (b p q : Addr) (wt : V) (js : List Nat), vs = [.ref b, .ref q] ∧ BookAt C H b "row" p wt ∧ H q = some (.tup ((nat2 js).map V.int)) ∧ Q (hd1 js) H
def spk : List Nat → List V
  | [] => [.str "none"]
  | j :: _ => [.str "entry", .int (j : Int)]
def spSpeakerRow (C : Addr) : Sp := fun vs H Q _ => ∃ (b p : Addr) (wt v : V) (ys : List V) (es : List Ent) (ms : List Int), vs = [.ref b, v] ∧ BookAt C H b "row" p wt ∧ H p = some (.tup ys) ∧ Ents H ys es ∧ (∀ e ∈ es, EntOk e) ∧ es.length ≤ 40 ∧ Xci.Mk H v ms ∧ MarksOk 6 ms ∧
  ∀ (u : V) (H' : Hp), Tup H' u (spk (fitN es ms)) → Same H H' → Q u H'
def spSpeaksRow (K : PySem.W.Frag) : Sp := fun vs H Q _ => ∃ (p : Addr) (v : V) (ys : List V) (es : List Ent) (ms : List Int), vs = [.str "row", .ref p, .non, v] ∧ H p = some (.tup ys) ∧ Ents H ys es ∧ (∀ e ∈ es, EntOk e) ∧ es.length ≤ 1000 ∧ Xci.Mk H v ms ∧
  ∀ (u : V) (H' : Hp), Tup H' u (spk (fitN es ms)) → Same H H' → Q u H'
def flat0 : V → Bool
  | .int _ => true
  | .str _ => true
  | _ => false
def spLike0 : Sp := fun vs H Q _ => ∃ x : V, vs = [x, x] ∧ flat0 x = true ∧ ∀ H', Same H H' → Q (.bl true) H'
def spLike1 : Sp := fun vs H Q _ => ∃ (u v : V) (xs : List V), vs = [u, v] ∧ Tup H u xs ∧ Tup H v xs ∧ xs.all flat0 = true ∧ xs.length ≤ 1000 ∧ ∀ H', Same H H' → Q (.bl true) H'
theorem fit_take (es : List Ent) (ms : List Int) (i : Nat) : (List.range (i + 1)).filter (fitP es ms) = (List.range i).filter (fitP es ms) ++ if fitP es ms i = true then [i] else [] := by
  rw [List.range_succ, List.filter_append, List.filter_cons, List.filter_nil]
theorem nat2_app (xs ys : List Nat) : nat2 (xs ++ ys) = nat2 xs ++ nat2 ys := List.map_append
theorem fitP_at {es : List Ent} {ms : List Int} {i : Nat} {e : Ent} (h : es[i]? = some e) : fitP es ms i = inside e.1 ms := by unfold fitP; rw [h]
theorem fit_len (es : List Ent) (ms : List Int) (i : Nat) : (nat2 ((List.range i).filter (fitP es ms))).length ≤ i := by
  unfold nat2
  rw [List.length_map]
  exact Nat.le_trans (List.length_filter_le _ _) (by rw [List.length_range]; exact Nat.le_refl _)
theorem isi_tl {K : PySem.W.Frag} {a : String} (h1 : kitB a "tuple" = some false) (h2 : kitB a "list" = some false) : PySem.W.kitAny K (.type a) [.type "tuple", .type "list"] = some false :=
  kitAny_cons (b := false) (kit_ty h1) (fun _ => kitAny_cons (b := false) (kit_ty h2) (fun _ => kitAny_nil) (fun h => by cases h)) (fun h => by cases h)
theorem isi_tup {K : PySem.W.Frag} : PySem.W.kitAny K (.type "tuple") [.type "tuple", .type "list"] = some true :=
  kitAny_cons (b := true) (kit_ty (by decide +kernel)) (fun h => by cases h) (fun _ => rfl)
def toD : V → PyData
  | .int i => .int i
  | .str x => .str x
  | _ => .none
theorem dp_one {K : PySem.W.Frag} {H : Hp} {x : V} (h : flat0 x = true) : Dp K H x (toD x) := by
  cases x with
  | int i => exact .int i
  | str z => exact .str z
  | non => cases h
  | bl _ => cases h
  | byt _ => cases h
  | flt _ => cases h
  | ref _ => cases h
  | ty _ => cases h
theorem dp_all {K : PySem.W.Frag} {H : Hp} : ∀ {xs : List V}, xs.all flat0 = true → DpAll K H xs (xs.map toD)
  | [], _ => .nil
  | x :: r, h => by
    rw [List.all_cons, Bool.and_eq_true] at h
    exact .cons (dp_one h.1) (dp_all h.2)
theorem dp_tup {K : PySem.W.Frag} {H : Hp} {v : V} {xs : List V} (t : Tup H v xs) (h : xs.all flat0 = true) : Dp K H v (.tuple (xs.map toD)) := by
  obtain ⟨p, rfl, hp⟩ := t
  exact .tup (sqT hp) (dp_all h)
theorem sh1 : SeqAt.shaped (.tuple [.str "none"]) = true := by decide +kernel
theorem sh2 (i : Int) : SeqAt.shaped (.tuple [.str "entry", .int i]) = true := by
  have h : PyData.canLay0 (.str "entry") = true := by decide +kernel
  simp [SeqAt.shaped, PyData.canLay0, PyData.canLayAll0, PyData.depth, PyData.depthAll]
  simp [PyData.canLay0] at h
  exact h
theorem eqv1 (z : Str) : PyData.eqv (.tuple [.str z]) (.tuple [.str z]) = true := by
  simp [PyData.eqv, PyData.eqvAll]
theorem eqv2 (z : Str) (i j : Int) : PyData.eqv (.tuple [.str z, .int i]) (.tuple [.str z, .int j]) = decide (i = j) := by
  simp [PyData.eqv, PyData.eqvAll]
  try rw [Bool.eq_iff_iff]; simp

theorem fit_cons (e : Ent) (es : List Ent) (ms : List Int) : fitN (e :: es) ms = (if inside e.1 ms = true then [0] else []) ++ (fitN es ms).map (· + 1) := by
  unfold fitN
  rw [List.length_cons, List.range_succ_eq_map, List.filter_cons, List.filter_map]
  have h0 : fitP (e :: es) ms 0 = inside e.1 ms := rfl
  have h1 : (fitP (e :: es) ms ∘ Nat.succ) = fitP es ms := rfl
  rw [h0, h1]
  split <;> rfl
theorem fit_snoc (e : Ent) (es : List Ent) (ms : List Int) : fitN (es ++ [e]) ms = fitN es ms ++ (if inside e.1 ms = true then [es.length] else []) := by
  unfold fitN
  rw [List.length_append, List.length_singleton, List.range_succ, List.filter_append]
  have h0 : fitP (es ++ [e]) ms es.length = inside e.1 ms := by
    unfold fitP
    rw [List.getElem?_append_right (Nat.le_refl _), Nat.sub_self]
    rfl
  rw [List.filter_cons, List.filter_nil, h0]
  congr 1
  refine List.filter_congr fun i hi => ?_
  unfold fitP
  rw [List.getElem?_append_left (List.mem_range.mp hi)]
theorem cat_of {K : PySem.W.Frag} {H : Hp} {xs ys : List V} {a b : Addr} {Q : V → Hp → Prop} (ha : H a = some (.tup xs)) (hb : H b = some (.tup ys)) (hl : xs.length + ys.length ≤ sizeLine)
    (G : ∀ t H', H' t = some (.tup (xs ++ ys)) → Same H H' → Q (.ref t) H') : rCatA K (.ref a) (.ref b) H Q := by
  refine ⟨a, b, xs, ys, rfl, rfl, sqT ha, sqT hb, hl, fun e => ?_, fun _ e => ?_, fun _ _ p hp => ?_⟩
  · subst e
    exact G b H hb (Same.refl H)
  · subst e
    exact G a H (by rw [List.append_nil]; exact ha) (Same.refl H)
  · exact G p _ upd_same (Same.new hp)
theorem spk_flat (js : List Nat) : (spk js).all flat0 = true := by cases js <;> rfl
theorem spk_len (js : List Nat) : (spk js).length ≤ 1000 := by
  cases js with
  | nil => exact (by decide : 1 ≤ 1000)
  | cons j r => exact (by decide : 2 ≤ 1000)
theorem spk_sh (js : List Nat) : SeqAt.shaped (.tuple ((spk js).map toD)) = true := by
  cases js with
  | nil => exact sh1
  | cons j r => exact sh2 _
theorem spk_eqv (js : List Nat) : PyData.eqv (.tuple ((spk js).map toD)) (.tuple ((spk js).map toD)) = true := by
  cases js with
  | nil => exact eqv1 _
  | cons j r =>
    show PyData.eqv (.tuple [.str "entry", .int (j : Int)]) (.tuple [.str "entry", .int (j : Int)]) = true
    rw [eqv2]
    exact decide_eq_true rfl
theorem Same.tfr {H H' : Hp} (f : Same H H') : TFr H H' := TFr.same f
end Xci

namespace Xci
open PySem L2
/-! ### who speaks, by a relation «beats» -/
inductive Res where
  | none
  | ent (j : Nat)
  | qua (l : List Nat)
/-- n is in js and beats all others -/
def Win (js : List Nat) (beat : Nat → Nat → Bool) (n : Nat) : Prop := n ∈ js ∧ ∀ o ∈ js, o ≠ n → beat n o = true
structure Beat (beat : Nat → Nat → Bool) : Prop where
  irr : ∀ n, beat n n = false
  asy : ∀ n o, beat n o = true → beat o n = false
def winC (js : List Nat) (beat : Nat → Nat → Bool) (n : Nat) : Bool := decide ((js.filter (beat n)).length + 1 = js.length)
def maxB (js : List Nat) (beat : Nat → Nat → Bool) (n : Nat) : Bool := !js.any fun o => beat o n
def lawRes (js : List Nat) (beat : Nat → Nat → Bool) : Res :=
  if js = [] then .none else match js.find? (winC js beat) with
    | some n => .ent n
    | none => .qua (js.filter (maxB js beat))
theorem filt_add {α : Type} (p : α → Bool) : ∀ l : List α, (l.filter p).length + (l.filter fun x => !p x).length = l.length
  | [] => rfl
  | x :: r => by
    have ih := filt_add p r
    rw [List.filter_cons, List.filter_cons]
    cases h : p x
    · simp only [Bool.not_false, if_true, Bool.false_eq_true, if_false, List.length_cons]
      omega
    · simp only [Bool.not_true, if_true, Bool.false_eq_true, if_false, List.length_cons]
      omega
theorem filt_one {α : Type} [DecidableEq α] {p : α → Bool} {l : List α} {n : α} (hn : l.Nodup) (hm : n ∈ l) (hp : p n = true) : (l.filter p).length = 1 ↔ ∀ o ∈ l, o ≠ n → p o = false := by
  constructor
  · intro h o ho hne
    cases q : p o with
    | false => rfl
    | true =>
      obtain ⟨x, hx⟩ := List.length_eq_one_iff.mp h
      have h1 : n ∈ l.filter p := List.mem_filter.mpr ⟨hm, hp⟩
      have h2 : o ∈ l.filter p := List.mem_filter.mpr ⟨ho, q⟩
      rw [hx] at h1 h2
      rw [List.mem_singleton] at h1 h2
      exact absurd (h2.trans h1.symm) hne
  · intro h
    have nd : (l.filter p).Nodup := List.Sublist.nodup List.filter_sublist hn
    have h1 : n ∈ l.filter p := List.mem_filter.mpr ⟨hm, hp⟩
    have h2 : ∀ o ∈ l.filter p, o = n := fun o ho => by
      obtain ⟨a, b⟩ := List.mem_filter.mp ho
      by_cases e : o = n
      · exact e
      · rw [h o a e] at b; cases b
    match hl : l.filter p with
    | [] => rw [hl] at h1; cases h1
    | [x] => rfl
    | x :: y :: r =>
      rw [hl] at h2 nd
      have e1 := h2 x (by simp)
      have e2 := h2 y (by simp)
      rw [e1, e2] at nd
      exact absurd (by simp) (List.nodup_cons.mp nd).1
theorem winC_iff {js : List Nat} {beat : Nat → Nat → Bool} (B : Beat beat) (hn : js.Nodup) {n : Nat} (hm : n ∈ js) : winC js beat n = true ↔ Win js beat n := by
  unfold winC
  rw [decide_eq_true_iff]
  have h1 := filt_add (beat n) js
  have h2 := filt_one (p := fun x => !beat n x) hn hm (by simp [B.irr])
  constructor
  · intro h
    refine ⟨hm, fun o ho hne => ?_⟩
    have := h2.mp (by omega) o ho hne
    simpa using this
  · intro h
    have := h2.mpr fun o ho hne => by simp [h.2 o ho hne]
    omega
theorem Win.uniq {js : List Nat} {beat : Nat → Nat → Bool} (B : Beat beat) {n m : Nat} (h1 : Win js beat n) (h2 : Win js beat m) : n = m := by
  by_cases e : n = m
  · exact e
  · have a := h1.2 m h2.1 (fun q => e q.symm)
    have b := h2.2 n h1.1 e
    rw [B.asy _ _ a] at b
    cases b
theorem lawRes_nil (beat : Nat → Nat → Bool) : lawRes [] beat = .none := rfl
theorem lawRes_ent {js : List Nat} {beat : Nat → Nat → Bool} (B : Beat beat) (hn : js.Nodup) {n : Nat} (h : Win js beat n) : lawRes js beat = .ent n := by
  unfold lawRes
  rw [if_neg (by intro e; rw [e] at h; exact absurd h.1 (by simp))]
  cases q : js.find? (winC js beat) with
  | none =>
    have := List.find?_eq_none.mp q n h.1
    exact absurd ((winC_iff B hn h.1).mpr h) this
  | some m =>
    have h1 := List.find?_some q
    have h2 := List.mem_of_find?_eq_some q
    have e := Win.uniq B h ((winC_iff B hn h2).mp h1)
    rw [e]
theorem lawRes_qua {js : List Nat} {beat : Nat → Nat → Bool} (B : Beat beat) (hn : js.Nodup) (hne : js ≠ []) (h : ∀ n, ¬ Win js beat n) : lawRes js beat = .qua (js.filter (maxB js beat)) := by
  unfold lawRes
  rw [if_neg hne]
  cases q : js.find? (winC js beat) with
  | none => rfl
  | some m =>
    have h1 := List.find?_some q
    have h2 := List.mem_of_find?_eq_some q
    exact absurd ((winC_iff B hn h2).mp h1) (h m)
theorem lawRes_cases {js : List Nat} {beat : Nat → Nat → Bool} (B : Beat beat) (hn : js.Nodup) : (js = [] ∧ lawRes js beat = .none) ∨ (∃ n, Win js beat n ∧ lawRes js beat = .ent n) ∨ (js ≠ [] ∧ (∀ n, ¬ Win js beat n) ∧ lawRes js beat = .qua (js.filter (maxB js beat))) := by
  by_cases e : js = []
  · exact .inl ⟨e, by rw [e]; rfl⟩
  · by_cases h : ∃ n, Win js beat n
    · obtain ⟨n, h⟩ := h
      exact .inr (.inl ⟨n, h, lawRes_ent B hn h⟩)
    · have h' : ∀ n, ¬ Win js beat n := fun n q => h ⟨n, q⟩
      exact .inr (.inr ⟨e, h', lawRes_qua B hn e h'⟩)
/-- the same relation, the same result -/
theorem lawRes_congr {js : List Nat} {b1 b2 : Nat → Nat → Bool} (h : ∀ n ∈ js, ∀ o ∈ js, b1 n o = b2 n o) : lawRes js b1 = lawRes js b2 := by
  have e1 : ∀ n ∈ js, winC js b1 n = winC js b2 n := fun n hn => by
    unfold winC
    rw [List.filter_congr (h n hn)]
  have e2 : ∀ n ∈ js, maxB js b1 n = maxB js b2 n := fun n hn => by
    unfold maxB
    congr 1
    rw [Bool.eq_iff_iff, List.any_eq_true, List.any_eq_true]
    exact ⟨fun ⟨o, ho, q⟩ => ⟨o, ho, by rw [← h o ho n hn]; exact q⟩, fun ⟨o, ho, q⟩ => ⟨o, ho, by rw [h o ho n hn]; exact q⟩⟩
  have e3 : js.find? (winC js b1) = js.find? (winC js b2) := by
    have : ∀ l : List Nat, (∀ n ∈ l, winC js b1 n = winC js b2 n) → l.find? (winC js b1) = l.find? (winC js b2) := by
      intro l
      induction l with
      | nil => intro _; rfl
      | cons x r ih =>
        intro hl
        rw [List.find?_cons, List.find?_cons, hl x (by simp), ih fun n hn => hl n (List.mem_cons_of_mem _ hn)]
    exact this js e1
  unfold lawRes
  rw [e3, List.filter_congr e2]
/-- what the permuted book says -/
inductive Turned (g : Nat → Nat) : Res → Res → Prop
  | none : Turned g .none .none
  | ent (i : Nat) : Turned g (.ent i) (.ent (g i))
  | qua (l' l : List Nat) : (l'.map g).Perm l → Turned g (.qua l') (.qua l)
theorem lawRes_turned {js js' : List Nat} {beat beat' : Nat → Nat → Bool} {g : Nat → Nat} (B : Beat beat) (B' : Beat beat') (hn : js.Nodup) (hp : (js'.map g).Perm js) (hb : ∀ i ∈ js', ∀ o ∈ js', beat' i o = beat (g i) (g o)) : Turned g (lawRes js' beat') (lawRes js beat) := by
  have nd1 : (js'.map g).Nodup := hp.nodup_iff.mpr hn
  have nd' : js'.Nodup := (List.pairwise_map.mp nd1).imp fun h e => h (congrArg g e)
  have inj : ∀ i ∈ js', ∀ o ∈ js', g i = g o → i = o := fun i hi o ho e => by
    obtain ⟨a, ha⟩ := List.getElem?_of_mem hi
    obtain ⟨b, hb⟩ := List.getElem?_of_mem ho
    have q1 : (js'.map g)[a]? = some (g i) := by rw [List.getElem?_map, ha]; rfl
    have q2 : (js'.map g)[b]? = some (g i) := by rw [List.getElem?_map, hb, e]; rfl
    have := nd_ix nd1 q1 q2
    subst this
    exact Option.some.inj (ha.symm.trans hb)
  rcases lawRes_cases B' nd' with ⟨e, r⟩ | ⟨n, h, r⟩ | ⟨e, h, r⟩
  · subst e
    have : js = [] := by
      have := hp.length_eq
      exact List.eq_nil_of_length_eq_zero this.symm
    subst this
    rw [r, lawRes_nil]
    exact .none
  · rw [r, lawRes_ent B hn (n := g n)]
    · exact .ent n
    · refine ⟨hp.subset (List.mem_map_of_mem h.1), fun o ho hne => ?_⟩
      obtain ⟨i, hi, rfl⟩ := List.mem_map.mp (hp.symm.subset ho)
      rw [← hb n h.1 i hi]
      exact h.2 i hi fun e => hne (by rw [e])
  · have hne : js ≠ [] := fun e' => e (by
      rw [e'] at hp
      have := hp.length_eq
      rw [List.length_map] at this
      exact List.eq_nil_of_length_eq_zero this)
    rw [r, lawRes_qua B hn hne fun m hm => ?_]
    · refine .qua _ _ ?_
      have e1 : js'.filter (maxB js' beat') = js'.filter (fun i => maxB js beat (g i)) := by
        refine List.filter_congr fun i hi => ?_
        unfold maxB
        congr 1
        rw [Bool.eq_iff_iff, List.any_eq_true, List.any_eq_true]
        constructor
        · rintro ⟨o, ho, q⟩
          exact ⟨g o, hp.subset (List.mem_map_of_mem ho), by rw [← hb o ho i hi]; exact q⟩
        · rintro ⟨o, ho, q⟩
          obtain ⟨k, hk, rfl⟩ := List.mem_map.mp (hp.symm.subset ho)
          exact ⟨k, hk, by rw [hb k hk i hi]; exact q⟩
      rw [e1]
      have e2 : (js'.filter (fun i => maxB js beat (g i))).map g = (js'.map g).filter (maxB js beat) := by
        rw [List.filter_map]
        rfl
      rw [e2]
      exact hp.filter _
    · obtain ⟨i, hi, rfl⟩ := List.mem_map.mp (hp.symm.subset hm.1)
      refine h i ⟨hi, fun o ho hne => ?_⟩
      rw [hb i hi o ho]
      exact hm.2 (g o) (hp.subset (List.mem_map_of_mem ho)) fun e => hne (inj _ ho _ hi e)
end Xci

namespace Xci
open PySem PySem.Spec PyProof.Rows L2
/-- the tuple at a and the list at b as they stand at each turn, their items in new pairs -/
def ItzM (K : PySem.W.Frag) (a b : Addr) : It :=
  ⟨fun i H => ∃ (xs ys : List V) (x y : V), (SqT K H a xs ∧ SqL K H b ys) ∧ xs[i]? = some x ∧ ys[i]? = some y,
    fun i H v H' => ∃ T x y, v = .ref T ∧ (H T = none ∧ H' = upd H T (.tup [x, y])) ∧ (∀ xs, SqT K H a xs → xs[i]? = some x) ∧ ∀ ys, SqL K H b ys → ys[i]? = some y,
    fun i H => ∃ xs ys : List V, (SqT K H a xs ∧ SqL K H b ys) ∧ xs.length = ys.length ∧ i = xs.length⟩
/-- the state of such a zip at its i-th turn -/
def ZSt (z TI TO i1 i2 a b : Addr) (i : Nat) (h : Heap) : Prop := IsZip h z TI TO .none ∧ IsTupOf2 h TI (.ref i1) (.ref i2) ∧ (∃ p q, IsTupOf2 h TO p q) ∧ h.IsTupleIter i1 a i ∧ h.IsListIter i2 b i
theorem five {c z TI TO i1 i2 : Addr} (h : c ∈ [z, TI, TO, i1, i2]) : c = z ∨ c = TI ∨ c = TO ∨ c = i1 ∨ c = i2 := by simpa using h
theorem ZSt.low {z TI TO i1 i2 a b : Addr} {i : Nat} {h : Heap} (st : ZSt z TI TO i1 i2 a b i h) : ∀ c ∈ [z, TI, TO, i1, i2], c < h.objs.size := by
  obtain ⟨q1, q2, ⟨_, _, q3⟩, ⟨_, q4, _⟩, ⟨_, q5, _⟩⟩ := st
  intro c hc
  rcases five hc with e | e | e | e | e <;> subst e
  · exact Heap.lt_size q1
  · exact Heap.lt_size q2
  · exact Heap.lt_size q3
  · exact Heap.lt_size q4
  · exact Heap.lt_size q5
theorem turn_zipM {P : Program} {w : World} {K : PySem.W.Frag} {elts : List Expr} {kk : Nat} {tpos : Pos} {a b z TI TO i1 i2 : Addr} (S : ZipSep2 z TI TO i1 i2 [i1, a] [i2, b]) (n1 : a ≠ i1) (n2 : b ≠ i2) :
    Turn P w K (.Tuple elts kk tpos) (ItzM K a b) [z, TI, TO, i1, i2] z (ZSt z TI TO i1 i2 a b) where
  mem := by simp
  self := fun _ _ _ _ _ st q => wpAny_pyIter_zip st.1 q
  keep := fun i h h' st k => by
    obtain ⟨q1, q2, ⟨p, q, q3⟩, q4, q5⟩ := st
    exact ⟨k _ (by simp) _ q1, k _ (by simp) _ q2, ⟨p, q, k _ (by simp) _ q3⟩, q4.at fun o e => k _ (by simp) o e, q5.at fun o e => k _ (by simp) o e⟩
  obj := fun i h st c hc => by
    obtain ⟨q1, q2, ⟨_, _, q3⟩, ⟨o4, q4, _, d4⟩, ⟨o5, q5, _, d5⟩⟩ := st
    rcases five hc with e | e | e | e | e <;> subst e
    · exact ⟨_, q1, fun v q => nomatch q⟩
    · exact ⟨_, q2, fun v q => nomatch q⟩
    · exact ⟨_, q3, fun v q => nomatch q⟩
    · exact ⟨o4, q4, fun v q => by rw [d4] at q; cases q⟩
    · exact ⟨o5, q5, fun v q => by rw [d5] at q; cases q⟩
  item := by
    intro X hP hw hK hc i pins s σ H E I hf st hg
    subst hP hw hK
    have low := st.low
    obtain ⟨q1, q2, ⟨p, q, q3⟩, q4, q5⟩ := st
    obtain ⟨xs, ys, x, y, ⟨hx, hy⟩, ex, ey⟩ := hg
    obtain ⟨us, rx, tx, _⟩ := I.tuple hx
    obtain ⟨vs, ry, ty, _⟩ := I.list hy
    obtain ⟨u, eu, ru⟩ := rx.get ex
    obtain ⟨v, ev, rv⟩ := ry.get ey
    have lu : i < us.toArray.size := by simpa using (List.getElem?_eq_some_iff.mp eu).1
    have lv : i < vs.toArray.size := by simpa using (List.getElem?_eq_some_iff.mp ev).1
    have calm : X.A.in1.handled = none := I.ok.hd hc
    refine wpAny_pyNext_zipD2_item (prog := X.prog) (w := X.w) (A := X.A) S (Draws.tuple calm i1 a n1 us.toArray) (Draws.list calm i2 b n2 vs.toArray) q1 q2 q3 ⟨q4, tx⟩ ⟨q5, ty.isList⟩ lu lv fun u' v' h' tk eu' ev' z' TO' s1' s2' hT hsz hk => ?_
    obtain rfl : u' = u := Option.some.inj (eu'.symm.trans (by simpa using eu))
    obtain rfl : v' = v := Option.some.inj (ev'.symm.trans (by simpa using ev))
    refine ⟨_, rfl, wpAny_letOwnedTupleGo_zip (s := { s with heap := h', toks := tk }) z' fun h'' z'' sb => ?_⟩
    have zl : z < s.heap.objs.size := low z (by simp)
    have top : h''.get? s.heap.objs.size = some { cls := .type "tuple", data := .seq #[u', v'] } := (sb.2 _ (Nat.ne_of_gt zl)).trans hT
    have made : ObjOk X.prog X.w (upd H s.heap.objs.size (.tup [x, y])) h'' s.heap.objs.size (.tup [x, y]) := ⟨by show 2 ≤ sizeLine; decide, [u', v'], .cons ru (.cons rv .nil), _, top, rfl, _, rfl⟩
    have all : ∀ c o, c ∉ [z, TI, TO, i1, i2] → s.heap.get? c = some o → h''.get? c = some o := fun c o hb e =>
      (sb.2 c fun e' => hb (by simp [e'])).trans (hk c o (fun e' => hb (by simp [e'])) (fun e' => hb (by simp [e'])) (fun e' => hb (by simp [e'])) (fun e' => hb (by simp [e'])) e)
    have I1 : Inv X pins σ (upd H s.heap.objs.size (.tup [x, y])) { s with heap := h'', toks := tk } := I.turnedNew (ch := [z, TI, TO, i1, i2]) all hf (Nat.le_refl _) made
    refine ⟨.ref s.heap.objs.size, _, I1, rfl, ⟨_, x, y, rfl, ⟨I.hok.fresh (Nat.le_refl _), rfl⟩, fun l hl => by rw [I.tuple_inj hl hx]; exact ex, fun l hl => by rw [I.list_inj hl hy]; exact ey⟩, ⟨z'', ?_, ⟨u', v', ?_⟩, ?_, ?_⟩, fun c hcm => ?_⟩
    · exact (sb.2 _ S.TIz).trans (hk _ _ S.TIz S.TITO S.TIi1 S.TIi2 q2)
    · exact (sb.2 _ S.TOz).trans TO'
    · exact s1'.1.at fun o e => (sb.2 _ (Ne.symm S.zi1)).trans e
    · exact s2'.1.at fun o e => (sb.2 _ (Ne.symm S.zi2)).trans e
    · rw [upd_ne (Nat.ne_of_lt (low c hcm))]
      exact (hf c hcm).1
  done := by
    intro X hP hw hK hc i pins s σ H E I hf st hg
    subst hP hw hK
    obtain ⟨q1, q2, ⟨p, q, q3⟩, q4, q5⟩ := st
    obtain ⟨xs, ys, ⟨hx, hy⟩, el, rfl⟩ := hg
    obtain ⟨us, rx, tx, _⟩ := I.tuple hx
    obtain ⟨vs, ry, ty, _⟩ := I.list hy
    have l1 : xs.length = us.toArray.size := by rw [rx.length]; simp
    have l2 : ys.length = vs.toArray.size := by rw [ry.length]; simp
    have calm : X.A.in1.handled = none := I.ok.hd hc
    exact wpAny_pyNext_zipD2_end (prog := X.prog) (w := X.w) (A := X.A) S (Draws.tuple calm i1 a n1 us.toArray) (Draws.list calm i2 b n2 vs.toArray) q1 q2 q3 ⟨q4, tx⟩ ⟨q5, ty.isList⟩ (by omega) (by omega) (.inl l1) fun h' tk hk =>
      ⟨rfl, I.turnedL (t' := tk) (ch := [z, TI, TO, i1, i2]) (fun c o hb e => hk c o (fun e' => hb (by simp [e'])) (fun e' => hb (by simp [e'])) (fun e' => hb (by simp [e'])) (fun e' => hb (by simp [e'])) e) hf⟩
def iZipM (K : PySem.W.Frag) (ta : TA) : TI := fun σ H R => ta σ H fun vs H1 => ∃ a b xs ys, vs = [.ref a, .ref b] ∧ (SqT K H1 a xs ∧ SqL K H1 b ys) ∧ R (ItzM K a b) H1
theorem pi_zipM {X : Cx} {e e2 : Expr} {ta : TA} {p pos tpos : Pos} {elts : List Expr} {kk : Nat} (hg : Gl X "zip") (hm : X.mg "zip" = none) (ha : PA X [e, e2] ta)
    (hs : starEach [e, e2] X.env = (false, eval e X.env) :: starEach [e2] X.env := by rfl) (hpl : (backTo pos (starEach [e2] X.env)).any (·.1) = false := by rfl) :
    PI X (.Tuple elts kk tpos) (.Call (.Name "zip" p) [e, e2] [] pos) (iZipM X.K ta) := by
  refine ⟨fun pins s σ H R I h => Call_ (ld_blt I hg hm boot_zip (callWith_type1 (thn (ha.run pos pins s σ H _ I h) fun us s1 ⟨vs, H1, I1, r1, q1⟩ => ?_) hs hpl))⟩
  obtain ⟨a, b, xs, ys, rfl, ⟨hx, hy⟩, q⟩ := q1
  obtain ⟨u1, u2, rfl, r, r'⟩ := vals2 r1
  cases r
  cases r'
  obtain ⟨us, rx, tx, _⟩ := I1.tuple hx
  obtain ⟨vs, ry, ty, _⟩ := I1.list hy
  have al : a < s1.heap.objs.size := by obtain ⟨_, e, _⟩ := id tx; exact Heap.lt_size e
  have bl : b < s1.heap.objs.size := by obtain ⟨_, e, _⟩ := id ty.isList; exact Heap.lt_size e
  have sep := zip_sep2 (N := s1.heap.objs.size) (fp1 := [a]) (fp2 := [b]) (fun c hc => by rw [List.mem_singleton.mp hc]; exact al) (fun c hc => by rw [List.mem_singleton.mp hc]; exact bl)
  refine zip_begins2 (begins_tuple a us.toArray) (begins_list b vs.toArray) tx ty.isList fun h' z' TI' TO' o1 o2 hsz hk => wpAny_pyIter_zip z' ?_
  refine ⟨s1.heap.objs.size + 4, [s1.heap.objs.size + 4, s1.heap.objs.size + 2, s1.heap.objs.size + 3, s1.heap.objs.size, s1.heap.objs.size + 1], _, _, H1, rfl, I1.kept (t' := s1.toks) hk, turn_zipM sep (Nat.ne_of_lt al) (Nat.ne_of_lt (Nat.lt_succ_of_lt bl)),
    ⟨z', TI', ⟨_, _, TO'⟩, ⟨_, o1, rfl, rfl⟩, ⟨_, o2, rfl, rfl⟩⟩, fun c hc => ?_, q⟩
  have low : s1.heap.objs.size ≤ c := by
    rcases five hc with e | e | e | e | e <;> rw [e]
    · exact Nat.le_add_right _ _
    · exact Nat.le_add_right _ _
    · exact Nat.le_add_right _ _
    · exact Nat.le_refl _
    · exact Nat.le_add_right _ _
  exact I1.fpOk low (I1.hok.fresh low)
theorem walk_zipM {K : PySem.W.Frag} {a b : Addr} {xs ys : List V} (hl : xs.length = ys.length) : Walk (ItzM K a b) xs.length (fun H => SqT K H a xs ∧ SqL K H b ys) (fun i H v H' => ∃ T x y, v = .ref T ∧ H T = none ∧ H' = upd H T (.tup [x, y]) ∧ xs[i]? = some x ∧ ys[i]? = some y) :=
  ⟨fun i H hi q => ⟨xs, ys, xs[i], ys[i]'(hl ▸ hi), q, List.getElem?_eq_getElem hi, List.getElem?_eq_getElem (hl ▸ hi)⟩, fun H q => ⟨xs, ys, q, hl, rfl⟩, fun i H v H' hi q ⟨T, x, y, e1, ⟨e2, e3⟩, f, g⟩ => ⟨T, x, y, e1, e2, e3, f xs q.1, g ys q.2⟩⟩
end Xci

namespace Xci
open PySem L2
/-! ### the manners -/
def rk (man : Str) (ws : List Int) (ms : List Int) : Int := if man = "weights" then (ms.map fun m => ws.getD m.toNat 0).sum else (ms.length : Int)
def beatM (man : Str) (ws : List Int) (ms ns : List Int) : Bool := if man = "within" then inside ns ms && decide (ns.length < ms.length) else decide (rk man ws ns < rk man ws ms)
def mkA (es : List Ent) (j : Nat) : List Int := match es[j]? with
  | some e => e.1
  | none => []
def beatA (man : Str) (ws : List Int) (es : List Ent) (n o : Nat) : Bool := beatM man ws (mkA es n) (mkA es o)
theorem mkA_at {es : List Ent} {j : Nat} {e : Ent} (h : es[j]? = some e) : mkA es j = e.1 := by unfold mkA; rw [h]
theorem n_ww : ¬ (("within" : Str) = "weights") := by decide +kernel
theorem n_mostw : ¬ (("most" : Str) = "weights") := by decide +kernel
theorem n_mosti : ¬ (("most" : Str) = "within") := by decide +kernel
theorem n_wi : ¬ (("weights" : Str) = "within") := by decide +kernel
theorem beatM_ok (man : Str) (ws : List Int) (ms : List Int) : beatM man ws ms ms = false := by
  unfold beatM
  split
  · simp
  · exact decide_eq_false (by omega)
theorem beatM_asy {man : Str} {ws : List Int} {ms ns : List Int} (h : beatM man ws ms ns = true) : beatM man ws ns ms = false := by
  unfold beatM at h ⊢
  split at h
  · rename_i e
    rw [if_pos e]
    rw [Bool.and_eq_true, decide_eq_true_iff] at h
    have : decide (ms.length < ns.length) = false := decide_eq_false (by omega)
    rw [this, Bool.and_false]
  · rename_i e
    rw [if_neg e]
    rw [decide_eq_true_iff] at h
    exact decide_eq_false (by omega)
theorem beatA_ok (man : Str) (ws : List Int) (es : List Ent) : Beat (beatA man ws es) := ⟨fun n => beatM_ok _ _ _, fun n o h => beatM_asy h⟩
/-- the highest ones -/
def hi (js : List Nat) (r : Nat → Int) (m : Int) : List Nat := js.filter fun j => decide (r j = m)
structure IsMax (js : List Nat) (r : Nat → Int) (m : Int) : Prop where
  at_ : ∃ j ∈ js, r j = m
  le : ∀ j ∈ js, r j ≤ m
theorem hi_one {js : List Nat} {r : Nat → Int} {m : Int} {n : Nat} (M : IsMax js r m) (h : hi js r m = [n]) : n ∈ js ∧ r n = m ∧ ∀ o ∈ js, o ≠ n → r o < r n := by
  have h1 : n ∈ hi js r m := by rw [h]; simp
  obtain ⟨a, b⟩ := List.mem_filter.mp h1
  have b := of_decide_eq_true b
  refine ⟨a, b, fun o ho hne => ?_⟩
  have l := M.le o ho
  by_cases e : r o = m
  · have : o ∈ hi js r m := List.mem_filter.mpr ⟨ho, decide_eq_true e⟩
    rw [h] at this
    exact absurd (List.mem_singleton.mp this) hne
  · omega
theorem hi_many {js : List Nat} {r : Nat → Int} {m : Int} (hn : js.Nodup) (M : IsMax js r m) (h : 1 < (hi js r m).length) (x : Nat) (hx : x ∈ js) : ∃ o ∈ js, o ≠ x ∧ r x ≤ r o := by
  have nd : (hi js r m).Nodup := List.Sublist.nodup List.filter_sublist hn
  match hl : hi js r m with
  | [] => rw [hl] at h; simp at h
  | [y] => rw [hl] at h; simp at h
  | y :: z :: t =>
    rw [hl] at nd
    have hyz : y ≠ z := fun e => (List.nodup_cons.mp nd).1 (by rw [e]; simp)
    have hy : y ∈ hi js r m := by rw [hl]; simp
    have hz : z ∈ hi js r m := by rw [hl]; simp
    obtain ⟨a1, b1⟩ := List.mem_filter.mp hy
    obtain ⟨a2, b2⟩ := List.mem_filter.mp hz
    have b1 := of_decide_eq_true b1
    have b2 := of_decide_eq_true b2
    have l := M.le x hx
    by_cases e : y = x
    · exact ⟨z, a2, fun q => hyz (by rw [e, q]), by omega⟩
    · exact ⟨y, a1, e, by omega⟩
theorem hi_ne {js : List Nat} {r : Nat → Int} {m : Int} (M : IsMax js r m) : hi js r m ≠ [] := by
  obtain ⟨j, hj, e⟩ := M.at_
  intro q
  have : j ∈ hi js r m := List.mem_filter.mpr ⟨hj, decide_eq_true e⟩
  rw [q] at this
  cases this
def rkA (man : Str) (ws : List Int) (es : List Ent) (j : Nat) : Int := rk man ws (mkA es j)
/-- what beats has the greater rank -/
theorem beat_rk {man : Str} {ws : List Int} {es : List Ent} {n o : Nat} (hw : man ≠ "weights" ∨ man ≠ "within") (h : beatA man ws es n o = true) : rkA man ws es o < rkA man ws es n := by
  unfold beatA beatM at h
  split at h
  · rename_i e
    subst e
    rw [Bool.and_eq_true, decide_eq_true_iff] at h
    unfold rkA rk
    rw [if_neg n_ww, if_neg n_ww]
    omega
  · exact of_decide_eq_true h
theorem many_noWin {man : Str} {ws : List Int} {es : List Ent} {js : List Nat} {m : Int} (hn : js.Nodup) (M : IsMax js (rkA man ws es) m) (h : 1 < (hi js (rkA man ws es) m).length) (n : Nat) : ¬ Win js (beatA man ws es) n := fun w => by
  obtain ⟨o, ho, hne, l⟩ := hi_many hn M h n w.1
  have hw : man ≠ "weights" ∨ man ≠ "within" := by
    by_cases e : man = "weights"
    · exact .inr (by rw [e]; exact n_wi)
    · exact .inl e
  have := beat_rk hw (w.2 o ho hne)
  omega
theorem one_Win {man : Str} {ws : List Int} {es : List Ent} {js : List Nat} {m : Int} {n : Nat} (hm : man ≠ "within") (M : IsMax js (rkA man ws es) m) (h : hi js (rkA man ws es) m = [n]) : Win js (beatA man ws es) n := by
  obtain ⟨a, b, l⟩ := hi_one M h
  refine ⟨a, fun o ho hne => ?_⟩
  unfold beatA beatM
  rw [if_neg hm]
  exact decide_eq_true (l o ho hne)
def holds (es : List Ent) (js : List Nat) (n : Nat) : Bool := js.all fun o => inside (mkA es o) (mkA es n)
theorem rk_within (ws : List Int) (es : List Ent) (j : Nat) : rkA "within" ws es j = ((mkA es j).length : Int) := by
  unfold rkA rk
  rw [if_neg n_ww]
theorem within_Win {ws : List Int} {es : List Ent} {js : List Nat} {m : Int} {n : Nat} (M : IsMax js (rkA "within" ws es) m) (h : hi js (rkA "within" ws es) m = [n]) (hh : holds es js n = true) : Win js (beatA "within" ws es) n := by
  obtain ⟨a, b, l⟩ := hi_one M h
  refine ⟨a, fun o ho hne => ?_⟩
  unfold beatA beatM
  rw [if_pos rfl, Bool.and_eq_true]
  have := l o ho hne
  rw [rk_within, rk_within] at this
  exact ⟨List.all_eq_true.mp hh o ho, decide_eq_true (by omega)⟩
theorem within_noWin {ws : List Int} {es : List Ent} {js : List Nat} {m : Int} {n : Nat} (M : IsMax js (rkA "within" ws es) m) (h : hi js (rkA "within" ws es) m = [n]) (hh : holds es js n = false) (k : Nat) : ¬ Win js (beatA "within" ws es) k := fun w => by
  obtain ⟨a, b, l⟩ := hi_one M h
  have e : n = k := by
    by_cases e : n = k
    · exact e
    · have h1 := beat_rk (.inl n_ww) (w.2 n a e)
      have h2 := l k w.1 (fun q => e q.symm)
      omega
  subst e
  have : holds es js n = true := List.all_eq_true.mpr fun o ho => by
    by_cases e : o = n
    · subst e
      exact List.all_eq_true.mpr fun m hm => decide_eq_true hm
    · have q := w.2 o ho e
      unfold beatA beatM at q
      rw [if_pos rfl, Bool.and_eq_true] at q
      exact q.1
  rw [this] at hh
  cases hh
/-- without a greatest one: the highest are those whom none beats -/
theorem hi_maxB {man : Str} {ws : List Int} {es : List Ent} {js : List Nat} {m : Int} (hm : man ≠ "within") (M : IsMax js (rkA man ws es) m) : js.filter (maxB js (beatA man ws es)) = hi js (rkA man ws es) m := by
  unfold hi
  refine List.filter_congr fun j hj => ?_
  unfold maxB
  have l := M.le j hj
  rw [Bool.eq_iff_iff, decide_eq_true_iff, Bool.not_eq_true', List.any_eq_false]
  constructor
  · intro h
    obtain ⟨o, ho, e⟩ := M.at_
    have := h o ho
    unfold beatA beatM at this
    rw [if_neg hm] at this
    have q : ¬ rkA man ws es j < rkA man ws es o := fun z => this (decide_eq_true z)
    omega
  · intro h o ho
    unfold beatA beatM
    rw [if_neg hm]
    have l2 := M.le o ho
    intro z
    have z := of_decide_eq_true z
    have z : rkA man ws es j < rkA man ws es o := z
    omega
def outdone (es : List Ent) (js : List Nat) (n : Nat) : Bool := (js.filter fun o => decide ((mkA es n).length < (mkA es o).length)).any fun o => inside (mkA es n) (mkA es o)
theorem out_maxB {ws : List Int} {es : List Ent} {js : List Nat} : js.filter (maxB js (beatA "within" ws es)) = js.filter fun n => !outdone es js n := by
  refine List.filter_congr fun j hj => ?_
  unfold maxB outdone
  congr 1
  rw [List.any_filter]
  congr 1
  funext o
  unfold beatA beatM
  rw [if_pos rfl, Bool.and_comm]
/-! ### results as values -/
def ResAt (H : Hp) (v : V) : Res → Prop
  | .none => Tup H v [.str "none"]
  | .ent j => Tup H v [.str "entry", .int (j : Int)]
  | .qua l => ∃ t, Tup H v [.str "quarrel", .ref t] ∧ H t = some (.tup ((nat2 l).map V.int))
theorem ResAt.keep {H H' : Hp} {v : V} {r : Res} (f : TFr H H') (h : ResAt H v r) : ResAt H' v r := by
  cases r with
  | none => exact Tup.keep f h
  | ent j => exact Tup.keep f h
  | qua l =>
    obtain ⟨t, a, b⟩ := h
    exact ⟨t, a.keep f, f _ _ b⟩
def resD : Res → PyData
  | .none => .tuple [.str "none"]
  | .ent j => .tuple [.str "entry", .int (j : Int)]
  | .qua l => .tuple [.str "quarrel", .tuple ((nat2 l).map PyData.int)]
theorem toD_ints (ns : List Int) : (ns.map V.int).map toD = ns.map PyData.int := by
  rw [List.map_map]
  rfl
theorem flat0_ints (ns : List Int) : (ns.map V.int).all flat0 = true := by
  rw [List.all_map]; exact List.all_eq_true.mpr fun _ _ => rfl
theorem dp_res {K : PySem.W.Frag} {H : Hp} {v : V} {r : Res} (h : ResAt H v r) : Dp K H v (resD r) := by
  cases r with
  | none => exact dp_tup h rfl
  | ent j => exact dp_tup h rfl
  | qua l =>
    obtain ⟨t, ⟨p, rfl, hp⟩, ht⟩ := h
    have q := dp_tup (K := K) (v := .ref t) ⟨t, rfl, ht⟩ (flat0_ints (nat2 l))
    rw [toD_ints] at q
    exact .tup (sqT hp) (.cons (.str _) (.cons q .nil))
theorem lay_ints (ns : List Int) : PyData.canLayAll0 (ns.map PyData.int) = true ∧ PyData.depthAll (ns.map PyData.int) = 0 := by
  induction ns with
  | nil => exact ⟨rfl, rfl⟩
  | cons n r ih =>
    rw [List.map_cons]
    simp [PyData.canLayAll0, PyData.depthAll, PyData.canLay0, PyData.depth, ih.1, ih.2]
theorem sh_ints (ns : List Int) : SeqAt.shaped (.list (ns.map PyData.int)) = true := by
  obtain ⟨a, b⟩ := lay_ints ns
  simp [SeqAt.shaped, PyData.canLay0, PyData.depth, a, b]
theorem eqv_ints (ns : List Int) : PyData.eqvAll (ns.map PyData.int) (ns.map PyData.int) = true := by
  induction ns with
  | nil => rfl
  | cons n r ih =>
    rw [List.map_cons]
    simp [PyData.eqvAll, PyData.eqv, ih]
theorem sh_res (r : Res) : SeqAt.shaped (resD r) = true := by
  cases r with
  | none => exact sh1
  | ent j => exact sh2 _
  | qua l =>
    obtain ⟨a, b⟩ := lay_ints (nat2 l)
    have h : PyData.canLay0 (.str "quarrel") = true := by decide +kernel
    simp [resD, SeqAt.shaped, PyData.canLay0, PyData.canLayAll0, PyData.depth, PyData.depthAll, a, b]
    simpa [PyData.canLay0] using h
theorem eqv_res (r : Res) : PyData.eqv (resD r) (resD r) = true := by
  cases r with
  | none => exact eqv1 _
  | ent j =>
    show PyData.eqv (.tuple [.str "entry", .int (j : Int)]) (.tuple [.str "entry", .int (j : Int)]) = true
    rw [eqv2]
    exact decide_eq_true rfl
  | qua l =>
    have := eqv_ints (nat2 l)
    simp [resD, PyData.eqv, PyData.eqvAll, this]
/-! ### books of all manners -/
def WtIs (H : Hp) (man : Str) (wt : V) (ws : List Int) : Prop := (man ≠ "weights" ∧ wt = .non) ∨ (man = "weights" ∧ Xci.Mk H wt ws ∧ ws.length = 6 ∧ ∀ x ∈ ws, 0 ≤ x ∧ x ≤ 1000000)
theorem WtIs.keep {H H' : Hp} {man : Str} {wt : V} {ws : List Int} (f : TFr H H') (h : WtIs H man wt ws) : WtIs H' man wt ws := h.imp id fun ⟨a, b, c⟩ => ⟨a, Tup.keep f b, c⟩
theorem WtIs.ok {H : Hp} {man : Str} {wt : V} {ws : List Int} (h : WtIs H man wt ws) : WtOk H man wt := h.imp id fun ⟨a, b, c⟩ => ⟨a, ws, b, c⟩
structure BookSt (C : Addr) (H : Hp) (b : Addr) (man : Str) (ws : List Int) (es : List Ent) : Prop where
  ex : ∃ (p : Addr) (wt : V) (ys : List V), BookAt C H b man p wt ∧ H p = some (.tup ys) ∧ Ents H ys es ∧ WtIs H man wt ws
  ok : ∀ e ∈ es, EntOk e
  len : es.length ≤ 40
theorem BookSt.same {C : Addr} {H H' : Hp} {b : Addr} {man : Str} {ws : List Int} {es : List Ent} (h : BookSt C H b man ws es) (f : Same H H') : BookSt C H' b man ws es := by
  obtain ⟨⟨p, wt, ys, ⟨dx, a1⟩, a2, a3, a4⟩, b1, b2⟩ := h
  exact ⟨⟨p, wt, ys, ⟨dx, f _ _ a1⟩, f _ _ a2, Ents.keep (TFr.same f) a3, a4.keep (TFr.same f)⟩, b1, b2⟩
/-- the numbers js, all of entries -/
def Nums (H : Hp) (q : Addr) (js : List Nat) : Prop := H q = some (.tup ((nat2 js).map V.int))
theorem num_of {js : List Nat} {i : Nat} {y : V} (h : ((nat2 js).map V.int)[i]? = some y) : ∃ j, js[i]? = some j ∧ y = V.int (j : Int) := by
  obtain ⟨z, hz, rfl⟩ := int_of h
  unfold nat2 at hz
  rw [List.getElem?_map] at hz
  cases e : js[i]? with
  | none => rw [e] at hz; cases hz
  | some j => rw [e] at hz; exact ⟨j, rfl, by rw [← Option.some.inj hz]⟩
theorem nat2_len (js : List Nat) : (nat2 js).length = js.length := by unfold nat2; rw [List.length_map]
def spRank (C : Addr) : Sp := fun vs H Q _ => ∃ (b : Addr) (man : Str) (ws : List Int) (es : List Ent) (j : Nat), vs = [.ref b, .int (j : Int)] ∧ BookSt C H b man ws es ∧ j < es.length ∧ ∀ H', Same H H' → Q (.int (rkA man ws es j)) H'
def spHighest (C : Addr) : Sp := fun vs H Q _ => ∃ (b q : Addr) (man : Str) (ws : List Int) (es : List Ent) (js : List Nat), vs = [.ref b, .ref q] ∧ BookSt C H b man ws es ∧ Nums H q js ∧ (∀ j ∈ js, j < es.length) ∧ js ≠ [] ∧ js.length ≤ 40 ∧
  ∀ (t : Addr) (m : Int) (H' : Hp), IsMax js (rkA man ws es) m → Nums H' t (hi js (rkA man ws es) m) → Same H H' → Q (.ref t) H'
def spHolds (C : Addr) : Sp := fun vs H Q _ => ∃ (b q : Addr) (man : Str) (ws : List Int) (es : List Ent) (js : List Nat) (n : Nat), vs = [.ref b, .int (n : Int), .ref q] ∧ BookSt C H b man ws es ∧ Nums H q js ∧ (∀ j ∈ js, j < es.length) ∧ n < es.length ∧ js.length ≤ 40 ∧ ∀ H', Same H H' → Q (.bl (holds es js n)) H'
def spOutdone (C : Addr) : Sp := fun vs H Q _ => ∃ (b q : Addr) (man : Str) (ws : List Int) (es : List Ent) (js : List Nat) (n : Nat), vs = [.ref b, .int (n : Int), .ref q] ∧ BookSt C H b man ws es ∧ Nums H q js ∧ (∀ j ∈ js, j < es.length) ∧ n < es.length ∧ js.length ≤ 40 ∧ ∀ H', Same H H' → Q (.bl (outdone es js n)) H'
def Man3 (man : Str) : Prop := man = "within" ∨ man = "weights" ∨ man = "most"
def spQuarrel (C : Addr) : Sp := fun vs H Q _ => ∃ (b q : Addr) (man : Str) (ws : List Int) (es : List Ent) (js : List Nat), vs = [.ref b, .ref q] ∧ BookSt C H b man ws es ∧ Nums H q js ∧ (∀ j ∈ js, j < es.length) ∧ js ≠ [] ∧ js.length ≤ 40 ∧
  ∀ (t : Addr) (H' : Hp), Nums H' t (js.filter (maxB js (beatA man ws es))) → Same H H' → Q (.ref t) H'
def resV : Res → V
  | .ent j => .int (j : Int)
  | _ => .non
def spSpeaking (C : Addr) : Sp := fun vs H Q _ => ∃ (b q : Addr) (man : Str) (ws : List Int) (es : List Ent) (js : List Nat), vs = [.ref b, .ref q] ∧ BookSt C H b man ws es ∧ Man3 man ∧ Nums H q js ∧ (∀ j ∈ js, j < es.length) ∧ js.Nodup ∧ js.length ≤ 40 ∧
  ∀ H', Same H H' → Q (resV (lawRes js (beatA man ws es))) H'
def spSpeaker (C : Addr) : Sp := fun vs H Q _ => ∃ (b : Addr) (v : V) (man : Str) (ws : List Int) (es : List Ent) (ms : List Int), vs = [.ref b, v] ∧ BookSt C H b man ws es ∧ Man3 man ∧ Xci.Mk H v ms ∧ MarksOk 6 ms ∧
  ∀ (u : V) (H' : Hp), ResAt H' u (lawRes (fitN es ms) (beatA man ws es)) → Same H H' → Q u H'
def spBeats : Sp := fun vs H Q _ => ∃ (man : Str) (wt u v : V) (ws ms ns : List Int), vs = [.str man, wt, u, v] ∧ Man3 man ∧ WtIs H man wt ws ∧ Xci.Mk H u ms ∧ Xci.Mk H v ns ∧ MarksOk 6 ms ∧ MarksOk 6 ns ∧ ∀ H', Same H H' → Q (.bl (beatM man ws ms ns)) H'
def spSum : Sp := fun vs H Q _ => ∃ (wt u : V) (ws ms : List Int), vs = [wt, u] ∧ Xci.Mk H wt ws ∧ ws.length = 6 ∧ Xci.Mk H u ms ∧ MarksOk 6 ms ∧ ∀ H', Same H H' → Q (.int (ms.map fun m => ws.getD m.toNat 0).sum) H'
def spProper : Sp := fun vs H Q _ => ∃ (u v : V) (ms ns : List Int), vs = [u, v] ∧ Xci.Mk H u ms ∧ Xci.Mk H v ns ∧ ms.length ≤ 1000 ∧ ∀ H', Same H H' → Q (.bl (inside ms ns && decide (ms.length < ns.length))) H'
def spSpeaks (K : PySem.W.Frag) : Sp := fun vs H Q _ => ∃ (man : Str) (p : Addr) (wt v : V) (ys : List V) (ws : List Int) (es : List Ent) (ms : List Int), vs = [.str man, .ref p, wt, v] ∧ Man3 man ∧ WtIs H man wt ws ∧ H p = some (.tup ys) ∧ Ents H ys es ∧ (∀ e ∈ es, EntOk e) ∧ es.length ≤ 1000 ∧ Xci.Mk H v ms ∧
  ∀ (u : V) (H' : Hp), ResAt H' u (lawRes (fitN es ms) (beatA man ws es)) → Same H H' → Q u H'
theorem fit_nd (es : List Ent) (ms : List Int) : (fitN es ms).Nodup := List.Sublist.nodup List.filter_sublist List.nodup_range
theorem fit_lt {es : List Ent} {ms : List Int} : ∀ j ∈ fitN es ms, j < es.length := fun j hj => List.mem_range.mp (List.mem_filter.mp hj).1
theorem fitN_len (es : List Ent) (ms : List Int) : (fitN es ms).length ≤ es.length := Nat.le_trans (List.length_filter_le _ _) (by rw [List.length_range]; exact Nat.le_refl _)
end Xci

namespace Xci
open PySem L2
/-! ### a book in another order; weights twice, even weights; sorted lists -/
theorem made_book {C x dx : Addr} {H : Hp} {man : Str} {p : Addr} {wt : V} {ys : List V} {es : List Ent} {ws : List Int} {Q : VK} {E : XK} (nx : H x = Option.none) (ndx : H dx = Option.none) (hm : Man man) (hw : WtIs H man wt ws) (hp : H p = some (.tup ys)) (ents : Ents H ys es)
    (ok : ∀ e ∈ es, EntOk e) (len : es.length ≤ 40) (G : ∀ H', BookSt C H' x man ws es → Same H H' → Q .non H') : spBook C [.ref x, .str man, .ref p, wt] (upd (upd H dx (.own x)) x (.ins C dx [])) Q E := by
  have s3 : Same H (upd (upd H dx (.own x)) x (.ins C dx [])) := fun b o e => by rw [upd_ne (ne_of_none e nx), upd_ne (ne_of_none e ndx)]; exact e
  refine ⟨x, dx, man, p, wt, ys, es, rfl, upd_same, hm, (hw.keep (TFr.same s3)).ok, s3 _ _ hp, Ents.keep (TFr.same s3) ents, ok, len, fun H' hb kp => ?_⟩
  have s4 : Same H H' := fun b o e => kp b o (s3 b o e) (ne_of_none e nx)
  exact G H' ⟨⟨p, wt, ys, hb, s4 _ _ hp, Ents.keep (TFr.same s4) ents, hw.keep (TFr.same s4)⟩, ok, len⟩ s4
/-- esT holds the entries of es in the order ord -/
structure Picked (es : List Ent) (ord : List Nat) (esT : List Ent) : Prop where
  len : esT.length = ord.length
  at_ : ∀ (i j : Nat), ord[i]? = some j → esT[i]? = es[j]?
def gOf (ord : List Nat) (i : Nat) : Nat := ord.getD i 0
theorem gOf_at {ord : List Nat} {i j : Nat} (h : ord[i]? = some j) : gOf ord i = j := by
  unfold gOf
  rw [List.getD_eq_getElem?_getD, h]
  rfl
theorem Picked.snoc {es : List Ent} {ord : List Nat} {esT : List Ent} {i j : Nat} {e : Ent} (P : Picked es (ord.take i) esT) (hi : i ≤ ord.length) (h : ord[i]? = some j) (he : es[j]? = some e) : Picked es (ord.take (i + 1)) (esT ++ [e]) := by
  have hlt := (List.getElem?_eq_some_iff.mp h).1
  have el : esT.length = i := by rw [P.len, List.length_take]; omega
  have et : ord.take (i + 1) = ord.take i ++ [j] := by rw [List.take_add_one, h]; rfl
  refine ⟨by rw [List.length_append, el, List.length_take, List.length_singleton]; omega, fun k m hk => ?_⟩
  rw [et] at hk
  have tl : (ord.take i).length = i := by rw [List.length_take]; omega
  by_cases hki : k < i
  · rw [List.getElem?_append_left (by omega)] at hk
    rw [List.getElem?_append_left (by omega)]
    exact P.at_ k m hk
  · have hkl := (List.getElem?_eq_some_iff.mp hk).1
    rw [List.length_append, tl, List.length_singleton] at hkl
    have : k = i := by omega
    subst this
    rw [List.getElem?_append_right (by omega), tl, Nat.sub_self] at hk
    obtain rfl : j = m := Option.some.inj hk
    rw [List.getElem?_append_right (by omega), el, Nat.sub_self, he]
    rfl
theorem Picked.mk_ {es : List Ent} {ord : List Nat} {esT : List Ent} (P : Picked es ord esT) {i : Nat} (hi : i < ord.length) : mkA esT i = mkA es (gOf ord i) := by
  have h : ord[i]? = some ord[i] := List.getElem?_eq_getElem hi
  unfold mkA
  rw [gOf_at h, P.at_ i _ h]
theorem Picked.fit {es : List Ent} {ord : List Nat} {esT : List Ent} (P : Picked es ord esT) {i : Nat} (ms : List Int) (hi : i < ord.length) : fitP esT ms i = fitP es ms (gOf ord i) := by
  have h : ord[i]? = some ord[i] := List.getElem?_eq_getElem hi
  unfold fitP
  rw [gOf_at h, P.at_ i _ h]
theorem gOf_map (ord : List Nat) : (List.range ord.length).map (gOf ord) = ord := by
  refine List.ext_getElem? fun i => ?_
  rw [List.getElem?_map]
  by_cases hi : i < ord.length
  · rw [List.getElem?_eq_getElem (by rw [List.length_range]; exact hi), List.getElem_range, List.getElem?_eq_getElem hi]
    show some (gOf ord i) = _
    rw [gOf_at (List.getElem?_eq_getElem hi)]
  · rw [List.getElem?_eq_none (by rw [List.length_range]; omega), List.getElem?_eq_none (by omega)]
    rfl
theorem Picked.perm {es : List Ent} {ord : List Nat} {esT : List Ent} (P : Picked es ord esT) (hp : ord.Perm (List.range es.length)) (ms : List Int) : ((fitN esT ms).map (gOf ord)).Perm (fitN es ms) := by
  have e1 : fitN esT ms = (List.range ord.length).filter (fun i => fitP es ms (gOf ord i)) := by
    unfold fitN
    rw [P.len]
    exact List.filter_congr fun i hi => P.fit ms (List.mem_range.mp hi)
  have e2 : ((List.range ord.length).filter (fun i => fitP es ms (gOf ord i))).map (gOf ord) = ((List.range ord.length).map (gOf ord)).filter (fitP es ms) := by
    rw [List.filter_map]
    rfl
  rw [e1, e2, gOf_map]
  exact hp.filter _
theorem Picked.turned {es : List Ent} {ord : List Nat} {esT : List Ent} (P : Picked es ord esT) (hp : ord.Perm (List.range es.length)) (man : Str) (ws ms : List Int) :
    Turned (gOf ord) (lawRes (fitN esT ms) (beatA man ws esT)) (lawRes (fitN es ms) (beatA man ws es)) := by
  refine lawRes_turned (beatA_ok _ _ _) (beatA_ok _ _ _) (fit_nd es ms) (P.perm hp ms) fun i hi o ho => ?_
  have h1 : i < ord.length := by rw [← P.len]; exact fit_lt i hi
  have h2 : o < ord.length := by rw [← P.len]; exact fit_lt o ho
  unfold beatA
  rw [P.mk_ h1, P.mk_ h2]
theorem Picked.ok {es : List Ent} {ord : List Nat} {esT : List Ent} (P : Picked es ord esT) (h : ∀ e ∈ es, EntOk e) : ∀ e ∈ esT, EntOk e := by
  intro e he
  obtain ⟨i, hi⟩ := List.getElem?_of_mem he
  have hl := (List.getElem?_eq_some_iff.mp hi).1
  rw [P.len] at hl
  have := P.at_ i _ (List.getElem?_eq_getElem hl)
  rw [hi] at this
  exact h e (List.mem_of_getElem? this.symm)
theorem lawRes_asc {js : List Nat} {beat : Nat → Nat → Bool} (h : js.Pairwise (· < ·)) {l : List Nat} (e : lawRes js beat = .qua l) : l.Pairwise (· < ·) ∧ l.length ≤ js.length := by
  unfold lawRes at e
  split at e
  · cases e
  · split at e
    · cases e
    · obtain rfl := Res.qua.inj e
      exact ⟨h.sublist List.filter_sublist, List.length_filter_le _ _⟩
theorem fit_asc (es : List Ent) (ms : List Int) : (fitN es ms).Pairwise (· < ·) := List.pairwise_lt_range.sublist List.filter_sublist
/-- two ascending lists of the same items are one -/
theorem sorted_one : ∀ {xs ys : List Int}, xs.Perm ys → xs.Pairwise (· ≤ ·) → ys.Pairwise (· ≤ ·) → xs = ys
  | [], ys, p, _, _ => (List.nil_perm.mp p).symm
  | x :: r, [], p, _, _ => by have := p.length_eq; simp at this
  | x :: r, y :: t, p, hx, hy => by
    obtain ⟨a1, a2⟩ := List.pairwise_cons.mp hx
    obtain ⟨b1, b2⟩ := List.pairwise_cons.mp hy
    have e : x = y := by
      have m1 : x ∈ y :: t := p.subset (by simp)
      have m2 : y ∈ x :: r := p.symm.subset (by simp)
      rcases List.mem_cons.mp m1 with q1 | q1
      · exact q1
      · rcases List.mem_cons.mp m2 with q2 | q2
        · exact q2.symm
        · have := b1 x q1
          have := a1 y q2
          omega
    subst e
    rw [sorted_one (List.perm_cons x |>.mp p) a2 b2]
theorem nat2_asc {l : List Nat} (h : l.Pairwise (· < ·)) : (nat2 l).Pairwise (· ≤ ·) := by
  unfold nat2
  rw [List.pairwise_map]
  exact h.imp fun q => by omega
theorem nat2_perm {l k : List Nat} (h : l.Perm k) : (nat2 l).Perm (nat2 k) := h.map _
theorem dp_list {K : PySem.W.Frag} {H : Hp} {p : Addr} {ns : List Int} (h : H p = some (.lst (ns.map V.int))) : Dp K H (.ref p) (.list (ns.map PyData.int)) := by
  have q := dp_all (K := K) (H := H) (flat0_ints ns)
  rw [toD_ints] at q
  exact .lst (SqL.of h) q
/-! weights -/
theorem getD_twice {ws : List Int} {i : Nat} : (ws.map (2 * ·)).getD i 0 = 2 * ws.getD i 0 := by
  rw [List.getD_eq_getElem?_getD, List.getD_eq_getElem?_getD, List.getElem?_map]
  cases ws[i]? <;> simp
theorem sum_twice (ws ms : List Int) : (ms.map fun m => (ws.map (2 * ·)).getD m.toNat 0).sum = 2 * (ms.map fun m => ws.getD m.toNat 0).sum := by
  induction ms with
  | nil => rfl
  | cons m r ih =>
    rw [List.map_cons, List.map_cons, List.sum_cons, List.sum_cons, ih, getD_twice]
    omega
theorem beat_twice (ws ms ns : List Int) : beatM "weights" (ws.map (2 * ·)) ms ns = beatM "weights" ws ms ns := by
  unfold beatM rk
  rw [if_neg n_wi, if_pos rfl, if_pos rfl, if_neg n_wi, if_pos rfl, if_pos rfl, sum_twice, sum_twice, Bool.eq_iff_iff, decide_eq_true_iff, decide_eq_true_iff]
  omega
theorem getD_even {c : Int} {i : Nat} (h : i < 6) : (List.replicate 6 c).getD i 0 = c := by
  rw [List.getD_eq_getElem?_getD, List.getElem?_replicate, if_pos h]
  rfl
theorem sum_even {c : Int} {ms : List Int} (h : MarksOk 6 ms) : (ms.map fun m => (List.replicate 6 c).getD m.toNat 0).sum = c * ms.length := by
  have : ∀ ms : List Int, (∀ m ∈ ms, 0 ≤ m ∧ m < 6) → (ms.map fun m => (List.replicate 6 c).getD m.toNat 0).sum = c * ms.length := by
    intro ms
    induction ms with
    | nil => intro _; simp
    | cons m r ih =>
      intro hb
      have b := hb m (by simp)
      rw [List.map_cons, List.sum_cons, ih fun k hk => hb k (List.mem_cons_of_mem _ hk), getD_even (by omega), List.length_cons]
      have : c * ((r.length + 1 : Nat) : Int) = c * (r.length : Int) + c := by
        rw [Int.natCast_add, Int.mul_add]
        simp
      rw [this]
      omega
  exact this ms fun m hm => ⟨h.lo m hm, h.hi m hm⟩
theorem beat_even {c : Int} {ms ns ws : List Int} (hc : 1 ≤ c) (hm : MarksOk 6 ms) (hn : MarksOk 6 ns) : beatM "weights" (List.replicate 6 c) ms ns = beatM "most" ws ms ns := by
  unfold beatM rk
  rw [if_neg n_wi, if_pos rfl, if_pos rfl, if_neg n_mosti, if_neg n_mostw, if_neg n_mostw, sum_even hm, sum_even hn, Bool.eq_iff_iff, decide_eq_true_iff, decide_eq_true_iff]
  constructor
  · intro h
    exact Int.lt_of_mul_lt_mul_left h (by omega)
  · intro h
    exact Int.mul_lt_mul_of_pos_left h (by omega)
theorem mkA_ok {es : List Ent} (h : ∀ e ∈ es, EntOk e) (j : Nat) : MarksOk 6 (mkA es j) := by
  unfold mkA
  cases e : es[j]? with
  | none => exact ⟨.nil, by simp, by simp⟩
  | some x => exact (h x (List.mem_of_getElem? e)).ms
/-! max of a tuple of ints -/
end Xci
namespace Xci
open PySem PySem.Spec PyProof.Rows L2
theorem max_tup {prog : Program} {w : World} {A : Around} {E : Value → Shared → Prop} {s : Shared} {l : Addr} {its : List Value} {ns : List Int} {Q : Value → Shared → Prop} (hh : A.handled = none) (ht : s.heap.IsTuple l its.toArray) (hi : IntsAre its ns) (hne : 0 < ns.length)
    (h : ∀ h' tk M t', (∀ b o, s.heap.get? b = some o → h'.get? b = some o) → M ∈ ns → (∀ a, a ∈ ns → a ≤ M) → Q (.int M t') { s with heap := h', toks := tk }) : wpAny (model prog w) A (call (.builtin "max") [.ref l]) Q E s := by
  obtain ⟨xs, e⟩ := hi.allInts.items
  have hn : numsOf (intItems xs).toList = ns := e ▸ hi.numsOf
  rw [nums_intItems] at hn
  subst hn
  rw [e] at ht
  have pos : 0 < xs.size := by simpa using hne
  have below : l < s.heap.objs.size := by obtain ⟨_, q, _⟩ := id ht; exact Heap.lt_size q
  refine PySem.call_max_walk (wpAny_pyIter_tuple ht ?_)
  refine ⟨_, _, _, _, _, _, _, rfl, Walks.tuple (A := A.in1) hh s.heap.objs.size l (Nat.ne_of_lt below) (intItems xs), ⟨⟨_, Heap.get?_push_size _ rfl, rfl, rfl⟩, ht.at fun o q => Heap.get?_push_of_some _ q⟩, fun b hb => ?_, by simpa [intItems] using pos,
    CmpOf.ints_gt (numAt xs) (fun _ _ => intItems_at), fun v h' tk hv hk => ?_⟩
  · show b < (s.heap.push _).objs.size
    rw [Heap.size_push]
    have hb' : b = s.heap.objs.size ∨ b = l := by simpa using hb
    rcases hb' with q | q <;> rw [q]
    · exact Nat.lt_succ_self _
    · exact Nat.lt_succ_of_lt below
  have hv' : (intItems xs)[argBest (fun i j => decide (numAt xs i > numAt xs j)) (xs.size - 1)]? = some v := by simpa [intItems] using hv
  obtain ⟨t, rfl⟩ := intItems_at hv'
  obtain ⟨b1, b2⟩ := argBest_gt (numAt xs) (xs.size - 1)
  refine h h' tk _ t (fun b o q => ?_) ?_ fun a ha => ?_
  · refine hk b o (fun hm => ?_) (Heap.get?_push_of_some _ q)
    have hb' : b = s.heap.objs.size := by simpa using hm
    exact absurd (Heap.lt_size q) (by rw [hb']; exact Nat.lt_irrefl _)
  · rw [numAt_eq]
    exact PySem.getD_mem (by rw [List.length_map, Array.length_toList]; omega)
  · obtain ⟨j, hj, rfl⟩ := mem_getD ha
    rw [List.length_map, Array.length_toList] at hj
    rw [← numAt_eq]
    exact b2 j (by omega)
def rMaxT (K : PySem.W.Frag) : List V → Hp → VK → Prop := fun vs H Q => ∃ (a : Addr) (ns : List Int), vs = [V.ref a] ∧ SqT K H a (ns.map V.int) ∧ 0 < ns.length ∧ ∀ m, m ∈ ns → (∀ y, y ∈ ns → y ≤ m) → Q (.int m) H
theorem cr_maxT {X : Cx} (hc : X.calm = true) : CallR X (.builtin "max") (rMaxT X.K) := by
  intro pins s σ H vs us Q I r h
  obtain ⟨a, ns, rfl, hs, hne, q⟩ := h
  obtain ⟨its, rv, hl, _⟩ := I.tuple hs
  rw [Vals.ref1 r]
  exact max_tup (I.ok.hd hc) hl rv.ints hne fun h' tk m t' hk h1 h2 => ⟨.int m, H, I.kept hk, ⟨_, rfl⟩, q m h1 h2⟩
end Xci

namespace Xci
open PySem PySem.Spec PyProof.Rows L2
/-- a set as it is made, nothing in it -/
abbrev emptyO (w : World) : Obj := { cls := .type "set", dict := none, data := .set #[] 0 (.fresh 0 0 (!w.params.followText "set-order")) }
section
variable {P : Program} {w : World} {A : Around} {E : Value → Shared → Prop} {s : Shared}
/-- a type that makes a thing and fills it; what the filling is checked for is the caller's to tell -/
theorem made_and_filled {T newId initId : String} {args : List Value} {Q Made : Value → Shared → Prop} (ft : TypeCalled T newId initId) (fits : checkTypeCall T ⟨args, []⟩ = pure ())
    (making : codeAny (model P w) A.in1 (.call (.builtin newId) ⟨.type T :: args, []⟩) (wants Made E) s)
    (filling : ∀ v s1, Made v s1 → s1.TypeIs v T ∧ codeAny (model P w) A.in1 (.call (.builtin initId) ⟨v :: args, []⟩) (wants (fun r s2 => r = .none ∧ Q v s2) E) s1) :
    wpAny (model P w) A (call (.type T) args) Q E s := by
  have order := ft.mro
  have maker := ft.made
  have self := ft.sub
  have apart := ft.notType
  have may := ft.canCreate
  obtain ⟨_, _, order⟩ := order
  refine wpAny_call (codeAny_of_tree (show wpAny _ _ (callAny (.type T) _) _ _ _ from wpAny_pure ⟨Code.quiet_builtin _ (by decide +kernel), codeAny_builtin F.entry_type_call ?_⟩))
  rw [Around.under_plain (weight_type_call_type T args []) rfl]
  repeat (any_goals (first | assumption | wp_step))
  refine codeAny_mono making fun r s1 mr => ?_
  match r, mr with
  | .ok (.ret v), mr =>
    obtain ⟨isT, fill⟩ := filling v s1 mr
    have where_ := ft.init.lookup
    have bound := ft.init.bind v
    repeat (any_goals (first | assumption | wp_step))
    refine codeAny_mono fill fun r2 s2 fr => ?_
    match r2, fr with
    | .ok (.ret r), fr =>
      obtain ⟨rfl, done⟩ := fr
      repeat (any_goals (first | assumption | wp_step))
    | .error _, fr => exact fr
  | .error _, mr => exact mr
set_option maxHeartbeats 3200000 in
/-- set(a tuple of tuples of ints): what is told of it is what the loop over the tuple's walk leaves -/
theorem set_of_tuple {t : Addr} {items : Array Value} (ks : List (Addr × List Int)) {Q : Value → Shared → Prop} (hh : A.handled = none) (p : s.heap.IsTuple t items) (row : items.toList = ks.map fun p => Value.ref p.1)
    (hk : ∀ p ∈ ks, IsT P w s.heap p.2 p.1) (few : ks.length < 64) (hu : A.units + 3 < cLine)
    (q : ∀ h' tk L es ep tb, SetTR P w h' s.heap.objs.size L es ep tb → (∀ x, x ∈ L.map (·.2) ↔ x ∈ ks.map (·.2)) → (∀ b o, s.heap.get? b = some o → h'.get? b = some o) → Q (.ref s.heap.objs.size) { s with heap := h', toks := tk }) :
    wpAny (model P w) A (call (.type "set") [.ref t]) Q E s := by
  refine made_and_filled F.called_set (F.typeCall_set_1 _) (code_set_led1 (Q₁ := fun v s1 => v = .ref s.heap.objs.size ∧ s1 = { s with heap := s.heap.push (emptyO w) }) (.ref t) ⟨rfl, rfl⟩) ?_
  rintro _ _ ⟨rfl, rfl⟩
  have new : (s.heap.push (emptyO w)).get? s.heap.objs.size = some (emptyO w) := Heap.get?_push_size _ rfl
  refine ⟨⟨_, new, rfl⟩, codeAny_call_builtin F.called_set.init.plain F.entry_set_init (check_set_init_1 ⟨_, new, rfl⟩ ?_)⟩
  have old : ∀ b o, s.heap.get? b = some o → (s.heap.push (emptyO w)).get? b = some o := fun b o => Heap.get?_push_of_some _
  have tup : (s.heap.push (emptyO w)).IsTuple t items := p.at fun o => old t o
  have noSet := F.sub_tuple_set
  have noFrozen := F.sub_tuple_frozenset
  have noDict : (Value.type "tuple" == Value.type "dict") = false := by decide
  obtain ⟨o, at0, c0, n0, d0⟩ := id tup
  obtain ⟨oc, od, odat, osl⟩ := o
  cases c0
  cases d0
  unfold Builtin.«set.__init__» noKeywords Builtin.Frozenset.updateFrom
  generalize iterates : pyIter = PI
  wp_walk
  subst iterates
  refine wpAny_pyIter_tuple tup ?_
  refine wpAny_bind (wpAny_runValue ?_)
  have size1 : (s.heap.push (emptyO w)).objs.size = s.heap.objs.size + 1 := Heap.size_push ..
  have lt := Heap.lt_size (p.choose_spec.1)
  have count : items.size = ks.length := by rw [← Array.length_toList, row, List.length_map]
  have nowhere : ∀ b, s.heap.objs.size ≤ b → s.heap.get? b = none := fun b hb => by
    cases z : s.heap.get? b with
    | none => rfl
    | some o => exact absurd (Heap.lt_size z) (Nat.not_lt.mpr hb)
  have W := (Walks.tuple (prog := P) (w := w) (A := A.in1.in1.in1) (show A.in1.in1.in1.handled = none from hh) (s.heap.objs.size + 1) t (Nat.ne_of_lt (Nat.lt_succ_of_lt lt)) items).toS
  show codeAny _ _ (.builtin "set.update.loop" ⟨[.ref s.heap.objs.size, .ref (s.heap.push (emptyO w)).objs.size], []⟩) _ _
  rw [size1]
  refine set_update_tups W s.heap.objs.size ?_ ks count few (fun i v e => ?_) s.heap hk (nowhere _ (Nat.le_refl _)) (fun b hb => nowhere b ?_) (by simpa using hu) (items.size - 0) 0 _ rfl (Nat.zero_le _) ?_ (fun b o e => ?_) ⟨[], _, _, _, setTR_fresh ?_, Got.zero ks⟩ fun s' L es ep tb moved R got kept => ?_
  · intro z
    rcases List.mem_cons.mp z with z | z
    · exact absurd z (Nat.ne_of_lt (Nat.lt_succ_self _))
    · exact absurd (List.mem_singleton.mp z) (Nat.ne_of_gt lt)
  · rw [← Array.getElem?_toList, row, List.getElem?_map] at e
    obtain ⟨y, hy, ey⟩ := Option.map_eq_some_iff.mp e
    exact ⟨y, hy, ey.symm⟩
  · rw [List.mem_singleton.mp hb]
    exact Nat.le_succ _
  · refine ⟨⟨{ cls := .type "tuple_iterator", data := .fields #[.ref t, .int 0 0] }, ?_, rfl, rfl⟩, tup.at fun o => Heap.get?_push_of_some _⟩
    rw [← size1]
    exact Heap.get?_push_size _ rfl
  · exact Heap.get?_push_of_some _ (old b o e)
  · exact Heap.get?_push_of_some _ new
  · rw [count] at got
    have members : ∀ x, x ∈ L.map (·.2) ↔ x ∈ ks.map (·.2) := fun x => by
      constructor
      · intro z
        obtain ⟨y, hy, ey⟩ := List.mem_map.mp z
        exact ey ▸ List.mem_map_of_mem (List.mem_of_mem_take (got.sub y hy))
      · intro z
        obtain ⟨y, hy, ey⟩ := List.mem_map.mp z
        exact ey ▸ got.all y (by rw [List.take_length]; exact hy)
    obtain ⟨h', g', d', tk', os'⟩ := s'
    obtain ⟨_, rfl, ed, eo, _⟩ := moved
    cases (show d' = s.drawn from ed)
    cases (show os' = s.os from eo)
    exact wpAny_pure (wpAny_pure ⟨rfl, q h' tk' L es ep tb R members kept⟩)
end
theorem fewer_of_twice {α : Type} : ∀ (l : List α), ¬ l.Nodup → ∃ m : List α, m.length < l.length ∧ ∀ x ∈ l, x ∈ m
  | [], h => absurd List.nodup_nil h
  | x :: r, h => by
    by_cases hx : x ∈ r
    · refine ⟨r, Nat.lt_succ_self _, fun y hy => ?_⟩
      rcases List.mem_cons.mp hy with e | z
      · rw [e]; exact hx
      · exact z
    · obtain ⟨m, h1, h2⟩ := fewer_of_twice r fun z => h (List.nodup_cons.mpr ⟨hx, z⟩)
      refine ⟨x :: m, Nat.succ_lt_succ h1, fun y hy => ?_⟩
      rcases List.mem_cons.mp hy with e | z
      · rw [e]; exact List.mem_cons_self
      · exact List.mem_cons_of_mem _ (h2 y z)
theorem fits_in {α : Type} [DecidableEq α] : ∀ (l m : List α), l.Nodup → (∀ x ∈ l, x ∈ m) → l.length ≤ m.length
  | [], _, _, _ => Nat.zero_le _
  | x :: r, m, h, s => by
    obtain ⟨h1, h2⟩ := List.nodup_cons.mp h
    have hm := s x List.mem_cons_self
    have ne : ∀ y ∈ r, y ≠ x := fun y hy e => by rw [e] at hy; exact h1 hy
    have k := fits_in r (m.erase x) h2 fun y hy => (List.mem_erase_of_ne (ne y hy)).mpr (s y (List.mem_cons_of_mem _ hy))
    rw [List.length_erase_of_mem hm] at k
    have : 0 < m.length := List.length_pos_of_mem hm
    show r.length + 1 ≤ _
    omega
theorem count_unlike {α : Type} [DecidableEq α] {l m : List α} (h : l.Nodup) (same : ∀ x, x ∈ l ↔ x ∈ m) : l.length ≤ m.length ∧ (l.length = m.length ↔ m.Nodup) := by
  refine ⟨fits_in l m h fun x => (same x).mp, fun e => ?_, fun hm => ?_⟩
  · refine Decidable.byContradiction fun twice => ?_
    obtain ⟨k, k1, k2⟩ := fewer_of_twice m twice
    have := fits_in l k h fun x hx => k2 x ((same x).mp hx)
    omega
  · exact Nat.le_antisymm (fits_in l m h fun x => (same x).mp) (fits_in m l hm fun x => (same x).mpr)
/-- len(set(x)), x a tuple of tuples of ints: how many unlike ones stand in it -/
def tLenSetT (K : PySem.W.Frag) (ta : TE) : TE := fun σ H Q => ta σ H fun x H1 => ∃ (t : Addr) (ks : List (Addr × List Int)), x = .ref t ∧ SqT K H1 t (ks.map fun p => .ref p.1) ∧ (∀ p ∈ ks, SqT K H1 p.1 (p.2.map V.int)) ∧ ks.length < 64 ∧
  ∀ n : Nat, n ≤ ks.length → (n = ks.length ↔ (ks.map (·.2)).Nodup) → Q (.int n) H1
theorem pe_lenSetT {X : Cx} {a : Expr} {ta : TE} {p p2 q pos : Pos} (hc : X.calm = true) (hu : X.A.units + 64 < cLine) (hg : Gl X "len") (hm : X.mg "len" = none) (hg2 : Gl X "set") (hm2 : X.mg "set" = none) (ha : PE X a ta)
    (na : starEach [a] X.env = (false, eval a X.env) :: starEach [] X.env := by rfl) : PE X (.Call (.Name "len" p) [.Call (.Name "set" p2) [a] [] q] [] pos) (tLenSetT X.K ta) where
  run pins s σ H Q I h := by
    refine Call_ (ld_blt I hg hm PySem.boot_len (callWith_builtin1 (args_cons (Call_ (ld_blt I hg2 hm2 boot_set (callWith_type1 (args_cons (thn (ha.run pins s σ H _ I h) fun v s1 ⟨x, H1, I1, rv, t, ks, one, sq, each, few, k⟩ => args_nil ?_) na) na rfl))) rfl) rfl rfl))
    subst one
    cases rv
    obtain ⟨its, vals, tup, _⟩ := I1.tuple sq
    refine set_of_tuple (P := X.prog) (w := X.w) ks (I1.ok.hd hc) tup (refs_of_vals vals) (fun p hp => I1.isT (each p hp)) few (by omega) fun h' tk L es ep tb R members kept => args_nil ?_
    obtain ⟨o, at0, exact_, dat⟩ := R.ob
    have n1 := count_unlike R.nd members
    rw [List.length_map, List.length_map] at n1
    have n2 : es.size = L.length := R.size (s := ⟨h', s1.gens, s1.drawn, tk, s1.os⟩)
    have J : Inv X pins σ H1 { s1 with heap := h', toks := tk } := I1.kept kept
    refine call_len_set at0 exact_ dat (R.fits (s := ⟨h', s1.gens, s1.drawn, tk, s1.os⟩)) (by rw [n2]; omega) ⟨.int L.length, H1, J.tok _, ⟨_, by rw [n2]⟩, k _ n1.1 n1.2⟩
end Xci

namespace Xci
open PySem PySem.Spec PyProof.Rows L2
/-- the numbers that families.py names -/
structure FamCst (mg : Str → Option Value) where
  t1 : Tok
  t2 : Tok
  MOST_MARKS : mg "MOST_MARKS" = some (.int 6 t1)
  MOST_CELLS : mg "MOST_CELLS" = some (.int 24 t2)
/-- the class of families -/
structure FamTxt (K : PySem.W.Frag) (mg : Str → Option Value) (C : Addr) : Prop where
  cl : Cls K C
  nM : NoAttr K C "many"
  nC : NoAttr K C "cells"
  mgC : mg "Family" = some (.ref C)
def famF (many : Int) (p : Addr) : List (Str × V) := [("many", .int many), ("cells", .ref p)]
theorem n_mc : ¬ (("many" : Str) = "cells") := by decide +kernel
theorem putMany (v : V) : putF "many" v [] = [(("many" : Str), v)] := rfl
theorem putCells (v u : V) : putF "cells" u [(("many" : Str), v)] = [(("many" : Str), v), (("cells" : Str), u)] := by
  show (if ("many" : Str) = "cells" then _ else (("many" : Str), v) :: putF "cells" u []) = _
  rw [if_neg n_mc] <;> rfl
theorem famF_many (many : Int) (p : Addr) : (famF many p).lookup ("many" : Str) = some (.int many) := by
  unfold famF
  rw [List.lookup_cons, show ((Str.ofString "many" : Str) == Str.ofString "many") = true from by decide +kernel]
theorem famF_cells (many : Int) (p : Addr) : (famF many p).lookup ("cells" : Str) = some (.ref p) := by
  unfold famF
  rw [List.lookup_cons, show ((Str.ofString "cells" : Str) == Str.ofString "many") = false from by decide +kernel]
  rfl
/-- at b a family of so many marks with the cells at p -/
def FamAt (C : Addr) (H : Hp) (b : Addr) (many : Int) (p : Addr) : Prop := ∃ dx, H b = some (.ins C dx (famF many p))
def spAreCells : Sp := fun vs H Q _ => ∃ (many : Int) (p : Addr) (ys : List V) (cells : List (List Int)), vs = [.int many, .ref p] ∧ H p = some (.tup ys) ∧ Mks H ys cells ∧ FamOk many cells ∧ Q (.bl true) H
def spFam (C : Addr) : Sp := fun vs H Q _ => ∃ (x dx : Addr) (many : Int) (p : Addr) (ys : List V) (cells : List (List Int)), vs = [.ref x, .int many, .ref p] ∧ H x = some (.ins C dx []) ∧ H p = some (.tup ys) ∧ Mks H ys cells ∧ FamOk many cells ∧
  ∀ H' : Hp, FamAt C H' x many p → (∀ b o, H b = some o → b ≠ x → H' b = some o) → Q .non H'
/-- cells, each with the address at which it stands -/
theorem Mks.placed {K : PySem.W.Frag} {H : Hp} : ∀ {ys : List V} {cells : List (List Int)}, Mks H ys cells → ∃ ks : List (Addr × List Int), ys = ks.map (fun p => .ref p.1) ∧ ks.map (·.2) = cells ∧ ∀ p ∈ ks, SqT K H p.1 (p.2.map V.int)
  | _, _, .nil => ⟨[], rfl, rfl, nofun⟩
  | _, _, .cons ⟨a, e, h⟩ t => by
    obtain ⟨ks, e1, e2, e3⟩ := Mks.placed (K := K) t
    refine ⟨(a, _) :: ks, by rw [List.map_cons, ← e1, e], by rw [List.map_cons, e2], fun p hp => ?_⟩
    rcases List.mem_cons.mp hp with z | z
    · rw [z]; exact sqT h
    · exact e3 p z
end Xci

namespace Xci
open PySem L2

section
variable {P : Program} {w : World} {K : PySem.W.Frag} {mg : Str → Option Value} {base : Heap}
abbrev sIsInteger : Stmt := top 9
theorem scIsInteger : FnScope ["thing"] ["thing"] (defScope sIsInteger) := ⟨rfl, rfl, rfl, by decide +kernel, rfl, by decide +kernel, by decide +kernel⟩

theorem ok_integer {f : Addr} {fd : FuncData} (F : Fun K "is_integer" "is_integer" sIsInteger f fd) (T : Txt mg) : FnOk P w K mg base CX0 1 f fd ["thing"] spIsInteger := by
  refine F.ok scIsInteger (fun vs H Q E h => ?_) (fun cdv A outer s H vs Q E hr h => ?_)
  · obtain ⟨i, rfl, _⟩ := h
    rfl
  · obtain ⟨i, rfl, k⟩ := h
    refine ⟨_, (pss_one (ps_ret (pe_and (pe_callB call_isi rfl T.isinstance (by decide +kernel) (pa_cons (pv 0) (pa_cons (pe_bltn rfl T.int (by decide +kernel) (v := V.ty "int") rfl) pa_nil))) (pe_one (pe_not (pe_callB call_isi rfl T.isinstance (by decide +kernel) (pa_cons (pv 0) (pa_cons (pe_bltn rfl T.bool (by decide +kernel) (v := V.ty "bool") rfl) pa_nil)))))))), ?_⟩
    refine ⟨_, rfl, _, _, _, _, true, rfl, .ty _, .base (.int _), kit_ty (by decide +kernel), _, rfl, ?_⟩
    exact ⟨_, rfl, _, _, _, _, false, rfl, .ty _, .base (.int _), kit_ty (by decide +kernel), _, rfl, k⟩
abbrev sIsBetween : Stmt := top 10
theorem scIsBetween : FnScope ["low", "high", "thing"] ["low", "high", "thing"] (defScope sIsBetween) := ⟨rfl, rfl, rfl, by decide +kernel, rfl, by decide +kernel, by decide +kernel⟩

theorem ok_between {f : Addr} {fd : FuncData} (F : Fun K "is_between" "is_between" sIsBetween f fd) (HI : Has P w K mg base "is_integer" ["thing"] 1 spIsInteger) : FnOk P w K mg base CX0 2 f fd ["low", "high", "thing"] spBetween := by
  refine F.ok scIsBetween (fun vs H Q E h => ?_) (fun cdv A outer s H vs Q E hr h => ?_)
  · obtain ⟨lo, hi, x, rfl, _⟩ := h
    rfl
  · obtain ⟨lo, hi, x, rfl, k⟩ := h
    refine ⟨_, (pss_one (ps_ret (pe_and (pe_callH HI (hr.mono (by decide)) rfl (pa_cons (pv 2) pa_nil)) (pe_one (pe_chain op_le op_le (pv 0) (pv 2) (pv 1)))))), ?_⟩
    refine ⟨_, rfl, x, rfl, _, rfl, ?_⟩
    refine ⟨_, rfl, _, rfl, _, _, rfl, rfl, _, rfl, ?_⟩
    refine ite2 (fun h1 => ?_) (fun h1 => ?_)
    · have h1' : lo ≤ x := of_decide_eq_true h1
      refine ⟨_, rfl, _, _, rfl, rfl, ?_⟩
      have e : decide (lo ≤ x ∧ x ≤ hi) = decide (x ≤ hi) := by simp [h1']
      rw [e] at k
      exact k
    · have h1' : ¬ lo ≤ x := fun q => h1 (decide_eq_true q)
      have e : decide (lo ≤ x ∧ x ≤ hi) = false := by simp [h1']
      rw [e] at k
      exact k
abbrev sIsCell : Stmt := top 12
theorem scIsCell : FnScope ["many", "thing", "lowest", "mark"] ["many", "thing"] (defScope sIsCell) := ⟨rfl, rfl, rfl, by decide +kernel, rfl, by decide +kernel, by decide +kernel⟩

theorem ok_cell {f : Addr} {fd : FuncData} (F : Fun K "is_cell" "is_cell" sIsCell f fd) (T : Txt mg) (HB : Has P w K mg base "is_between" ["low", "high", "thing"] 2 spBetween) : FnOk P w K mg base CX0 3 f fd ["many", "thing"] spIsCell := by
  refine F.ok scIsCell (fun vs H Q E h => ?_) (fun cdv A outer s H vs Q E hr h => ?_)
  · obtain ⟨n, v, ms, rfl, _⟩ := h
    rfl
  · obtain ⟨n, v, ms, rfl, ⟨p, rfl, hp⟩, ok, k⟩ := h
    refine ⟨_, (pss_cons (ps_if (pt_not (pt_val (pe_callB call_isi rfl T.isinstance (by decide +kernel) (pa_cons (pv 1) (pa_cons (pe_bltn rfl T.tuple (by decide +kernel) (v := V.ty "tuple") rfl) pa_nil))))) (pss_one (ps_ret pe_bl)) pss_nil)
      (pss_cons (ps_set (i := 2) scIsCell.nd rfl (by first | exact Or.inl rfl | exact Or.inr rfl) pe_int)
      (pss_cons (ps_for PassesOwn.never rfl (pi_tup (pv 1)) (pg_name (i := 3) scIsCell.nd rfl (by first | exact Or.inl rfl | exact Or.inr rfl)) (pss_cons (ps_if (pt_not (pt_val (pe_callH HB (hr.mono (by decide)) rfl (pa_cons (pv 2) (pa_cons (pe_op op_sub (pv 0) pe_int) (pa_cons (pv 3) pa_nil)))))) (pss_one (ps_ret pe_bl)) pss_nil)
      (pss_one (ps_set (i := 2) scIsCell.nd rfl (by first | exact Or.inl rfl | exact Or.inr rfl) (pe_op op_add (pv 3) pe_int)))))
      (pss_one (ps_ret pe_bl))))), ?_⟩
    refine ⟨_, rfl, _, _, _, _, true, rfl, .ty _, .base (.tup hp), kit_ty (by decide +kernel), _, rfl, ?_⟩
    refine iteF ?_
    refine ⟨_, rfl, p, rfl, ⟨_, sqT hp⟩, for_tup (K := K) (a := p) (xs := ms.map V.int) (fun i σ H2 => H2 = H ∧ ∃ (z : Int) (v : Option V), σ = [some (.int n), some (.ref p), some (.int z), v] ∧ ∀ m, ms[i]? = some m → z ≤ m) ⟨rfl, 0, none, rfl, fun m hm => ok.lo m (List.mem_of_getElem? hm)⟩ (fun i σ H2 _ ⟨e, _⟩ => by rw [e]; exact sqT hp) ?_ ?_⟩
    · rintro i y σ H2 hi ⟨rfl, z, v, rfl, hz⟩
      obtain ⟨m, hm, rfl⟩ := int_of hi
      have mem := List.mem_of_getElem? hm
      have h1 := hz m hm
      have h2 := ok.hi m mem
      refine ⟨_, rfl, _, rfl, _, _, rfl, rfl, _, rfl, _, _, m, rfl, _, rfl, ?_⟩
      have e : decide (z ≤ m ∧ m ≤ n - 1) = true := decide_eq_true ⟨h1, by omega⟩
      refine ite2 (fun hf => ?_) (fun _ => ?_)
      · have hf' : (!decide (z ≤ m ∧ m ≤ n - 1)) = true := hf
        rw [e] at hf'
        cases hf'
      · refine ⟨_, rfl, _, _, rfl, rfl, ?_⟩
        refine ⟨rfl, m + 1, _, rfl, fun m' hm' => ?_⟩
        have hlt1 := (List.getElem?_eq_some_iff.mp hm)
        have hlt2 := (List.getElem?_eq_some_iff.mp hm')
        obtain ⟨l1, e1⟩ := hlt1
        obtain ⟨l2, e2⟩ := hlt2
        have := List.pairwise_iff_getElem.mp ok.up i (i + 1) l1 l2 (Nat.lt_succ_self i)
        omega
    · rintro σ H2 ⟨rfl, z, v, rfl, hz⟩
      exact k
abbrev sAreCells : Stmt := top 59
theorem scAreCells : FnScope ["many", "thing", "cell"] ["many", "thing"] (defScope sAreCells) := ⟨rfl, rfl, rfl, by decide +kernel, rfl, by decide +kernel, by decide +kernel⟩

theorem ok_areCells {f : Addr} {fd : FuncData} (F : Fun K "_are_cells" "_are_cells" sAreCells f fd) (T : Txt mg) (TS : mg "set" = none) (c : FamCst mg) (HC : Has P w K mg base "is_cell" ["many", "thing"] 3 spIsCell) : FnOk P w K mg base CX0 4 f fd ["many", "thing"] spAreCells := by
  refine F.ok scAreCells (fun vs H Q E h => ?_) (fun cdv A outer s H vs Q E hr h => ?_)
  · obtain ⟨many, p, ys, cells, rfl, _⟩ := h
    rfl
  · obtain ⟨many, p, ys, cells, rfl, hp, each, ok, k⟩ := h
    refine ⟨_, (pss_cons (ps_if (PW.pt (pw_or (pt_not (pt_val (pe_callB call_isi rfl T.isinstance (by decide +kernel) (pa_cons (pv 1) (pa_cons (pe_bltn rfl T.tuple (by decide +kernel) (v := V.ty "tuple") rfl) pa_nil))))) (pw_or1 (pt_not (pt_chain op_le op_le pe_int (pe_callB call_len rfl T.len PySem.boot_len (pa_cons (pv 1) pa_nil)) (pe_gint rfl c.MOST_CELLS)))))) (pss_one (ps_ret pe_bl)) pss_nil)
      (pss_cons (ps_for PassesOwn.never rfl (pi_tup (pv 1)) (pg_name (i := 2) scAreCells.nd rfl (by first | exact Or.inl rfl | exact Or.inr rfl)) (pss_one (ps_if (pt_not (pt_val (pe_callH HC (hr.mono (by decide)) rfl (pa_cons (pv 0) (pa_cons (pv 2) pa_nil))))) (pss_one (ps_ret pe_bl)) pss_nil)))
      (pss_one (ps_ret (pe_cmpR op_eq (pe_lenSetT rfl (hu64 hr) rfl T.len rfl TS (pv 1)) (pe_callB call_len rfl T.len PySem.boot_len (pa_cons (pv 1) pa_nil)) (nomark _)))))), ?_⟩
    have len := Paired.length each
    have pos : 0 < cells.length := List.length_pos_iff.mpr ok.ne
    have few := ok.len
    refine ⟨_, rfl, _, _, _, _, true, rfl, .ty _, .base (.tup hp), kit_ty (by decide +kernel), _, rfl, ?_⟩
    refine iteF ?_
    refine ⟨_, rfl, _, ys.length, rfl, .inr ⟨_, sqT hp, rfl⟩, _, _, rfl, rfl, _, rfl, ?_⟩
    refine ite2 (fun _ => ?_) (fun no => absurd (decide_eq_true (show (1 : Int) ≤ ((ys.length : Nat) : Int) by omega)) no)
    refine ⟨_, _, rfl, rfl, _, rfl, ?_⟩
    refine ite2 (fun no => ?_) (fun _ => ?_)
    · have no' : (!decide (((ys.length : Nat) : Int) ≤ (24 : Int))) = true := no
      rw [decide_eq_true (show ((ys.length : Nat) : Int) ≤ (24 : Int) by omega)] at no'
      cases no'
    refine ⟨_, rfl, p, rfl, ⟨_, sqT hp⟩, for_tup (K := K) (a := p) (xs := ys) (fun i σ H2 => H2 = H ∧ ∃ v : Option V, σ = [some (.int many), some (.ref p), v]) ⟨rfl, none, rfl⟩ (fun i σ H2 _ ⟨e, _⟩ => by rw [e]; exact sqT hp) ?_ ?_⟩
    · rintro i y σ H2 hi ⟨rfl, v, rfl⟩
      obtain ⟨ms, at_, told⟩ := Paired.get each hi
      refine ⟨_, rfl, _, rfl, many, y, ms, rfl, told, ok.ok ms (List.mem_of_getElem? at_), _, rfl, ?_⟩
      exact iteF ⟨rfl, _, rfl⟩
    · rintro σ H2 ⟨rfl, v, rfl⟩
      obtain ⟨ks, e1, e2, e3⟩ := Mks.placed (K := K) each
      have same : ks.length = ys.length := by rw [e1, List.length_map]
      refine ⟨_, rfl, p, ks, rfl, (by rw [← e1]; exact sqT hp), e3, (by omega), fun n _ all => ?_⟩
      have full : n = ks.length := all.mpr (by rw [e2]; exact ok.nd)
      refine ⟨_, rfl, _, ys.length, rfl, .inr ⟨_, sqT hp, rfl⟩, ?_⟩
      rw [full, same]
      refine ⟨rfl, ?_⟩
      rw [decide_eq_true (show V.int ((ys.length : Nat) : Int) = V.int ((ys.length : Nat) : Int) from rfl)]
      exact k
abbrev sFamilyInit : Stmt := inClass (top 58) 0
theorem scFamilyInit : FnScope ["self", "many", "cells"] ["self", "many", "cells"] (defScope sFamilyInit) := ⟨rfl, rfl, rfl, by decide +kernel, rfl, by decide +kernel, by decide +kernel⟩

theorem ok_fam {f C : Addr} {fd : FuncData} (F : Fun K "__init__" "Family.__init__" sFamilyInit f fd) (T : Txt mg) (c : FamCst mg) (FT : FamTxt K mg C) (HB : Has P w K mg base "is_between" ["low", "high", "thing"] 2 spBetween) (HA : Has P w K mg base "_are_cells" ["many", "thing"] 4 spAreCells) :
    FnOk P w K mg base CX0 5 f fd ["self", "many", "cells"] (spFam C) := by
  refine F.ok scFamilyInit (fun vs H Q E h => ?_) (fun cdv A outer s H vs Q E hr h => ?_)
  · obtain ⟨x, dx, many, p, ys, cells, rfl, _⟩ := h
    rfl
  · obtain ⟨x, dx, many, p, ys, cells, rfl, hx, hp, each, ok, k⟩ := h
    refine ⟨_, (pss_cons (ps_if (pt_not (pt_val (pe_callH HB (hr.mono (by decide)) rfl (pa_cons pe_int (pa_cons (pe_gint rfl c.MOST_MARKS) (pa_cons (pv 1) pa_nil)))))) (pss_one ps_never) pss_nil)
      (pss_cons (ps_if (pt_not (pt_val (pe_callH HA (hr.mono (by decide)) rfl (pa_cons (pv 1) (pa_cons (pv 2) pa_nil))))) (pss_one ps_never) pss_nil)
      (pss_cons (ps_fld (pv 0) (pv 1) rfl)
      (pss_one (ps_fld (pv 0) (pv 2) rfl))))), ?_⟩
    refine ⟨_, rfl, _, _, _, rfl, _, rfl, ?_⟩
    rw [decide_eq_true (show (0 : Int) ≤ many ∧ many ≤ 6 from ⟨ok.lo, ok.hi⟩)]
    refine iteF ?_
    refine ⟨_, rfl, _, rfl, many, p, ys, cells, rfl, hp, each, ok, _, rfl, ?_⟩
    refine iteF ?_
    refine ⟨_, rfl, _, rfl, x, C, dx, [], rfl, hx, FT.cl, FT.nM, (by show 0 < 1000; decide), ?_⟩
    refine ⟨_, rfl, _, rfl, x, C, dx, _, rfl, upd_same, FT.cl, FT.nC, (by show 1 < 1000; decide), ?_⟩
    refine k _ ⟨dx, ?_⟩ fun b o e hb => ?_
    · rw [upd_same, putMany, putCells]
      rfl
    · rw [upd_ne hb, upd_ne hb]
      exact e
end
end Xci

namespace Xci
open PySem PySem.Spec PyProof.Rows L2
section
variable {κ : Type} [DecidableEq κ] {P : Program} {w : World} (kind : KeyKind P w κ)
/-- rows and table of a set whose members are told by S, n of them, any two rows unlike, and that can be walked -/
structure Laid (es : Array (Int × Value)) (t : SetTable) (S : κ → Bool) (n : Nat) : Prop where
  rows : ElemsOf kind es.toList
  told : ∀ k, S k = true ↔ ∃ e ∈ es.toList, kind.is k e.2 = true
  unlike : es.toList.Pairwise fun e f => ∀ k, kind.is k e.2 = true → kind.is k f.2 = false
  few : es.size < scanBound
  fits : t.fits es.size = true
  count : es.size = n
  rises : Ris t.place.toList
  ledger : w.params.followText "set-order" = true ∨ t.led = true
variable {kind}
theorem unlike_perm {l m : List (Int × Value)} (p : l.Perm m) (h : l.Pairwise fun e f => ∀ k, kind.is k e.2 = true → kind.is k f.2 = false) : m.Pairwise fun e f => ∀ k, kind.is k e.2 = true → kind.is k f.2 = false :=
  (p.pairwise_iff (fun {e f} q k hf => by
    cases z : kind.is k e.2 with
    | false => rfl
    | true => exact absurd hf (by rw [q k z]; exact Bool.false_ne_true))).mp h
/-- laid anew for another size -/
theorem Laid.again {es : Array (Int × Value)} {t : SetTable} {S : κ → Bool} {n : Nat} (L : Laid kind es t S n) (size : Nat) : Laid kind (relayAll t es size).1 (relayAll t es size).2.1 S n where
  rows := L.rows.perm (relayAll_perm t es size)
  told k := (L.told k).trans (by constructor <;> (rintro ⟨e, he, q⟩; exact ⟨e, by first | exact (relayAll_perm t es size).mem_iff.mpr he | exact (relayAll_perm t es size).mem_iff.mp he, q⟩))
  unlike := unlike_perm (relayAll_perm t es size).symm L.unlike
  few := by rw [← Array.length_toList, (relayAll_perm t es size).length_eq, Array.length_toList]; exact L.few
  fits := relayAll_fits t es size
  count := by rw [← Array.length_toList, (relayAll_perm t es size).length_eq, Array.length_toList]; exact L.count
  rises := relayAll_ris t es size
  ledger := L.ledger.imp id fun z => by rw [relayAll_led]; exact z
/-- one more row -/
theorem Laid.more {es : Array (Int × Value)} {t : SetTable} {S : κ → Bool} {n : Nat} {k : κ} {v : Value} (L : Laid kind es t S n) (is : kind.is k v = true) (scan : v.scannable = true) (no : S k = false) (room : n + 1 < scanBound) :
    Laid kind (layNew t es (kind.hash k) v).1 (layNew t es (kind.hash k) v).2.1 (fun j => S j || decide (j = k)) (n + 1) := by
  have p := layNew_perm t es (kind.hash k) v
  rw [Array.toList_push] at p
  have size : (layNew t es (kind.hash k) v).1.size = n + 1 := by
    rw [← Array.length_toList, p.length_eq, List.length_append, Array.length_toList, L.count] <;> rfl
  exact {
    rows := (L.rows.push is scan).perm p
    told := mem_push_iff is L.told p
    unlike := unlike_perm p.symm (List.pairwise_append.mpr ⟨L.unlike, List.pairwise_singleton .., fun e he f hf j hj => by
      rw [List.mem_singleton.mp hf]
      cases z : kind.is j v with
      | false => rfl
      | true =>
        have ek := kind.inj v j k z is
        rw [ek] at hj
        exact absurd ((L.told k).mpr ⟨e, he, hj⟩) (by rw [no]; exact Bool.false_ne_true)⟩)
    few := by rw [size]; exact room
    fits := layNew_fits t es (kind.hash k) v
    count := size
    rises := layNew_ris t es (kind.hash k) v L.rises
    ledger := L.ledger.imp id fun z => by rw [layNew_led]; exact z }
/-- the table may lose its plainness -/
theorem Laid.blunt {es : Array (Int × Value)} {t : SetTable} {S : κ → Bool} {n : Nat} (L : Laid kind es t S n) : Laid kind es { t with plain := false } S n :=
  ⟨L.rows, L.told, L.unlike, L.few, SetTable.fits_plain_off L.fits, L.count, L.rises, L.ledger⟩
variable (kind) in
/-- the set at a -/
def SetL (h : Heap) (a : Addr) (S : κ → Bool) (n : Nat) : Prop := ∃ o es ep t, h.get? a = some o ∧ o.ExactSet ∧ o.data = .set es ep t ∧ Laid kind es t S n
variable {A : Around} {E : Value → Shared → Prop} {s : Shared} {a : Addr} {S : κ → Bool} {n : Nat}
theorem SetL.keep {h h' : Heap} (R : SetL kind h a S n) (k : ∀ o, h.get? a = some o → h'.get? a = some o) : SetL kind h' a S n := by
  obtain ⟨o, es, ep, t, at0, r⟩ := R
  exact ⟨o, es, ep, t, k o at0, r⟩
/-- the rows written down, and the table made anew where it is full -/
theorem written {g : Bool → Sem Unit} (quiet : ∀ (b : Bool) (s1 : Shared) (R' : Unit → Shared → Prop), R' () s1 → wpAny (model P w) A (g b) R' E s1) {o : Obj} {es es' : Array (Int × Value)} {ep : Nat} {t t' : SetTable}
    (at0 : s.heap.get? a = some o) (exact_ : o.ExactSet) (dat : o.data = .set es ep t) (L : Laid kind es' t' S n) {dummy : Bool} {R : Option Bool → Shared → Prop}
    (end_ : ∀ h', Heap.SameBut a s.heap h' → SetL kind h' a S n → R (some true) { s with heap := h' }) :
    wpAny (model P w) A (do
        storeSet a es' t'
        if (!dummy && t'.tooFull) = true then do
            g (relayAll t' es' (SetTable.grown es'.size)).2.2
            storeSet a (relayAll t' es' (SetTable.grown es'.size)).1 (relayAll t' es' (SetTable.grown es'.size)).2.1
            pure (some true)
          else pure (some true)) R E s := by
  have at1 := store_at (es' := es') (t' := t') at0 dat
  have only := Heap.SameBut.update s.heap a (Obj.putSet es' t')
  have M := L.again (SetTable.grown es'.size)
  refine wpAny_bind (wpAny_storeSet_of at0 dat ?_ (fits_of_scanBound L.few))
  split
  · exact wpAny_bind (quiet _ _ _ (wpAny_bind (wpAny_storeSet_of at1 rfl (wpAny_pure (end_ _ (only.trans (Heap.SameBut.update _ a _)) ⟨_, _, _, _, store_at at1 rfl, exact_, rfl, M⟩)) (fits_of_scanBound M.few))))
  · exact wpAny_pure (end_ _ only ⟨_, _, _, _, at1, exact_, rfl, L⟩)
theorem SetL.add {k : κ} {v : Value} (is : kind.is k v = true) (scan : v.scannable = true) {Q : Bool → Shared → Prop} (R : SetL kind s.heap a S n) (room : n + 1 < scanBound)
    (q : ∀ h', Heap.SameBut a s.heap h' → SetL kind h' a (fun j => S j || decide (j = k)) (if S k = true then n else n + 1) → Q (!S k) { s with heap := h' }) :
    wpAny (model P w) A (setAddHashed a v (kind.hash k)) Q E s := by
  obtain ⟨o, es, ep, t, at0, exact_, dat, L⟩ := R
  have silent : ∀ (b : Bool) (s1 : Shared) (R' : Unit → Shared → Prop), R' () s1 → wpAny (model P w) A (match b with | true => rule "set.scan.the-table-gave-way" | false => pure ()) R' E s1 := fun b s1 R' z => by
    cases b
    · exact wpAny_pure z
    · exact wpAny_rule z
  unfold setAddHashed setAddHashedIn
  refine wpAny_holding (wpAny_bind (wpAny_setState_of at0 dat L.fits ?_))
  dsimp only
  rw [byScan_of scan L.few L.rows, if_pos rfl]
  unfold setAddByScan
  refine wpAny_bind (wpAny_bind (wpAny_rule (wpAny_bind (wpAny_setScan_of is at0 dat L.fits L.rows ?_))))
  cases met : List.findIdx? (fun e => kind.is k e.2) es.toList with
  | some j =>
    dsimp only
    obtain ⟨hj, pj, _⟩ := List.findIdx?_eq_some_iff_getElem.mp met
    have old : S k = true := (L.told k).mpr ⟨_, List.getElem_mem hj, pj⟩
    have same : (fun j => S j || decide (j = k)) = S := funext fun j => by
      by_cases e : j = k
      · rw [e, old] <;> rfl
      · rw [decide_eq_false e, Bool.or_false]
    have z := q s.heap (Heap.SameBut.refl a s.heap)
    rw [same, if_pos old, old] at z
    exact wpAny_pure (wpAny_pure (z ⟨o, es, ep, t, at0, exact_, dat, L⟩))
  | none =>
    dsimp only
    have no : S k = false := by
      cases z : S k with
      | false => rfl
      | true =>
        obtain ⟨e, he, p⟩ := (L.told k).mp z
        have c := List.findIdx?_eq_none_iff.mp met e he
        rw [p] at c
        cases c
    have M := L.more is scan no room
    rw [if_neg (by rw [no]; exact Bool.false_ne_true), no] at q
    generalize layNew t es (kind.hash k) v = lot at M ⊢
    obtain ⟨es1, t1, dummy, gave⟩ := lot
    dsimp only at M ⊢
    refine wpAny_bind (silent _ _ _ ?_)
    split
    · refine wpAny_bind ?_
      rw [hashByValue_scannable 8 scan]
      refine wpAny_pure ?_
      refine written (fun b s1 R' z => silent b s1 R' z) at0 exact_ dat (n := n + 1) (S := fun j => S j || decide (j = k)) ?_ fun h' only R => wpAny_pure (q h' only R)
      split
      · exact M
      · exact M.blunt
    · refine wpAny_bind (wpAny_pure ?_)
      rw [if_pos rfl]
      exact written (fun b s1 R' z => silent b s1 R' z) at0 exact_ dat M fun h' only R => wpAny_pure (q h' only R)
/-- set.add of one more -/
theorem SetL.call_add {k : κ} {v : Value} (is : kind.is k v = true) (scan : v.scannable = true) {Q : Value → Shared → Prop} (R : SetL kind s.heap a S n) (room : n + 1 < scanBound)
    (q : ∀ h', Heap.SameBut a s.heap h' → SetL kind h' a (fun j => S j || decide (j = k)) (if S k = true then n else n + 1) → Q .none { s with heap := h', toks := s.toks + 1 }) :
    wpAny (model P w) A (call (.builtin "set.add") [.ref a, v]) Q E s := by
  obtain ⟨o, _, _, _, at0, exact_, _, _⟩ := id R
  refine wpAny_call_entry F.slot_set_add ⟨o, at0, exact_.1⟩ F.entry_set_add ?_ (F.args_set_add_2 _ _)
  unfold Builtin.«set.add» Builtin.Frozenset.oneOther
  simp only [List.isEmpty_nil, bind_assoc]
  unfold Builtin.Frozenset.addrOf setAdd
  refine wpAny_bind (wpAny_pure (wpAny_bind (wpAny_pure (wpAny_bind (wpAny_holding (wpAny_bind (kind.pyHash is ?_)))))))
  exact SetL.add (s := { s with toks := s.toks + 1 }) is scan R room fun h' only M => wpAny_pure ⟨_, rfl, q h' only M⟩
/-- a set as it is made -/
theorem SetL.none {h : Heap} : SetL kind (h.push { cls := .type "set", dict := none, data := .set #[] 0 (.fresh 0 0 (!w.params.followText "set-order")) }) h.objs.size (fun _ => false) 0 := by
  refine ⟨_, _, _, _, Heap.get?_push_size _ rfl, ⟨rfl, rfl, rfl⟩, rfl, nofun, fun k => ⟨nofun, nofun⟩, List.Pairwise.nil, by decide, rfl, rfl, List.Pairwise.nil, ?_⟩
  cases z : w.params.followText "set-order"
  · exact .inr rfl
  · exact .inl rfl
end
section
variable {P : Program} {w : World} {A : Around} {E : Value → Shared → Prop} {s : Shared} {a : Addr} {S : Str → Bool} {n : Nat}
theorem texts_of : ∀ (us : List Value), (∀ u ∈ us, ∃ x t, u = Value.str x t) → ∃ xs, StrsAre us xs
  | [], _ => ⟨[], .nil⟩
  | u :: us, h => by
    obtain ⟨x, t, rfl⟩ := h u List.mem_cons_self
    obtain ⟨xs, r⟩ := texts_of us fun v hv => h v (List.mem_cons_of_mem _ hv)
    exact ⟨x :: xs, .cons x t r⟩
theorem strsAre_mem : ∀ {us : List Value} {xs : List Str}, StrsAre us xs → ∀ x, x ∈ xs ↔ ∃ t, Value.str x t ∈ us
  | _, _, .nil, x => by simp
  | _, _, .cons y t r, x => by
    have ih := strsAre_mem r x
    constructor
    · intro h
      rcases List.mem_cons.mp h with e | h
      · exact ⟨t, by rw [e]; exact List.mem_cons_self⟩
      · obtain ⟨t', h⟩ := ih.mp h
        exact ⟨t', List.mem_cons_of_mem _ h⟩
    · rintro ⟨t', h⟩
      rcases List.mem_cons.mp h with e | h
      · cases e
        exact List.mem_cons_self
      · exact List.mem_cons_of_mem _ (ih.mpr ⟨t', h⟩)
/-- sorted(a set of texts): its members, rising -/
theorem sorted_texts {Q : Value → Shared → Prop} (R : SetL (PySem.strKind P w) s.heap a S n) (hh : A.handled = none) (small : n < 64)
    (q : ∀ s' p (out : Array Value) (c : Nat) (xs : List Str), (∀ b o, s.heap.get? b = some o → s'.heap.get? b = some o) → s'.gens = s.gens → s'.os = s.os → s.heap.objs.size ≤ p →
      s'.heap.get? p = some (seqObj "list" out c) → StrsAre out.toList xs → sortedS xs = true → (∀ x, x ∈ xs ↔ S x = true) → xs.length = n → Q (.ref p) s') :
    wpAny (model P w) A (call (.builtin "sorted") [.ref a]) Q E s := by
  obtain ⟨o, es, ep, t, at0, exact_, dat, L⟩ := R
  refine Calls.call_function_entry kind_sorted plain_sorted entry_sorted (args_sorted1 _) ?_
  unfold Builtin.«sorted»
  refine wpAny_bind (m := checkCount "sorted" 1 1 _) (wpAny_pure (wpAny_bind (collect_set (A := A.in1) hh ⟨o, at0, exact_.1, dat⟩ L.fits L.few L.rises L.ledger fun s1 vs k1 z1 g1 o1 pm => ?_)))
  have len : vs.length = n := by rw [pm.length_eq, List.length_map, Array.length_toList, L.count]
  obtain ⟨xs, texts⟩ := texts_of vs fun v hv => by
    obtain ⟨e, he, rfl⟩ := List.mem_map.mp (pm.mem_iff.mp hv)
    obtain ⟨⟨k, is, _⟩, _⟩ := L.rows e he
    obtain ⟨tk, ev⟩ := Value.isStrOf_shape is
    exact ⟨k, tk, ev⟩
  have members : ∀ x, x ∈ xs ↔ S x = true := fun x => by
    rw [strsAre_mem texts x, L.told x]
    constructor
    · rintro ⟨tk, h⟩
      obtain ⟨e, he, ev⟩ := List.mem_map.mp (pm.mem_iff.mp h)
      exact ⟨e, he, by rw [ev]; exact PySem.strKind_is P w x tk⟩
    · rintro ⟨e, he, is⟩
      obtain ⟨tk, ev⟩ := Value.isStrOf_shape is
      exact ⟨tk, pm.mem_iff.mpr (List.mem_map.mpr ⟨e, he, ev⟩)⟩
  refine wpAny_bind (wpAny_newList ?_ (by rw [len, sizeLine_eq]; omega))
  have made : (s1.heap.push (seqObj "list" vs.toArray 0)).get? s1.heap.objs.size = some (seqObj "list" vs.toArray 0) := Heap.get?_push_size _ rfl
  refine wpAny_bind (wpAny_holding (wpAny_call_entry slot_list_sort ⟨_, made, rfl⟩ entry_list_sort (list_sort_treeKAny PyProof.Rows.strKind_oneLt made texts.keysOf (fun v1 v2 rest e => keyKind_strs (by rw [← e]; exact texts)) (by rw [len, sizeLine_eq]; omega) fun st p r => ?_) (args_list_sort _)))
  obtain ⟨ys, h1, h2, h3⟩ := sorted_out_str texts p r
  obtain ⟨c, at1⟩ := sortedHeap_at (vs := vs) (out := (arrOf st).map (·.2)) made
  refine ⟨_, rfl, wpAny_pure ⟨_, rfl, q _ s1.heap.objs.size _ c ys (fun b u e => ?_) g1 o1 z1 at1 h1 h3 (fun x => (h2.mem_iff).trans (members x)) ?_⟩⟩
  · have z := k1 b u e
    have lt := Heap.lt_size z
    show (sortedHeap (s1.heap.push (seqObj "list" vs.toArray 0)) s1.heap.objs.size vs ((arrOf st).map (·.2))).get? b = some u
    rw [sortedHeap_old (Nat.ne_of_lt lt) (by rw [size_push']; exact Nat.lt_succ_of_lt lt)]
    exact Heap.get?_push_of_some _ z
  · rw [h2.length_eq, ← texts.len_eq, len]
end
end Xci

namespace Xci
open PySem PySem.Spec PyProof.Rows L2
/-- the set of texts at a, as a tracked thing -/
def TextsO (P : Program) (w : World) (a : Addr) (S : Str → Bool) (n : Nat) : HO := .ext fun h => SetL (PySem.strKind P w) h a S n
theorem texts_new {P : Program} {w : World} {H : Hp} {h : Heap} {a : Addr} {S : Str → Bool} {n : Nat} (R : SetL (PySem.strKind P w) h a S n) : ObjOk P w H h a (TextsO P w a S n) :=
  ⟨R, R.elim fun o z => z.elim fun _ z => z.elim fun _ z => z.elim fun _ z => ⟨o, z.1⟩, fun _ _ p k => SetL.keep p k⟩
section
variable {X : Cx}
theorem texts_get {pins : List (Addr × Obj)} {σ : L2.St} {H : Hp} {s : Shared} {a : Addr} {S : Str → Bool} {n : Nat} (I : Inv X pins σ H s) (e : H a = some (TextsO X.prog X.w a S n)) : SetL (PySem.strKind X.prog X.w) s.heap a S n := (I.hok a _ e).1
/-- one more text -/
theorem texts_add {pins : List (Addr × Obj)} {σ : L2.St} {H : Hp} {s : Shared} {E : Value → Shared → Prop} {D : Addr} {S : Str → Bool} {n : Nat} {x : Str} {t : Tok} {Q : Value → Shared → Prop} (I : Inv X pins σ H s) (e : H D = some (TextsO X.prog X.w D S n)) (room : n + 1 < scanBound)
    (q : ∀ s', Inv X pins σ (upd H D (TextsO X.prog X.w D (fun j => S j || decide (j = x)) (if S x = true then n else n + 1))) s' → Q .none s') : wpAny (model X.prog X.w) X.A (call (.builtin "set.add") [.ref D, .str x t]) Q E s :=
  SetL.call_add (PySem.strKind_is _ _ x t) rfl (texts_get I e) room fun h' only R => q _ (I.write (e := D) (t' := s.toks + 1) (by rw [e]; trivial) (.inl rfl) (fun b u hb hu => (only.2 b hb).trans hu)
    (R.elim fun o z => z.elim fun _ z => z.elim fun _ z => z.elim fun _ z => ⟨o, z.1⟩) (texts_new R))
/-- sorted(a set of texts) -/
def rSortedTexts (P : Program) (w : World) : List V → Hp → VK → Prop := fun vs H Q => ∃ (a : Addr) (S : Str → Bool) (n : Nat), vs = [V.ref a] ∧ H a = some (TextsO P w a S n) ∧ n < 64 ∧
  ∀ (xs : List Str) (p : Addr), sortedS xs = true → (∀ x, x ∈ xs ↔ S x = true) → xs.length = n → H p = none → Q (.ref p) (upd H p (.lst (xs.map V.str)))
theorem vals_texts : ∀ {us : List Value} {xs : List Str}, StrsAre us xs → Vals (xs.map V.str) us
  | _, _, .nil => .nil
  | _, _, .cons x t r => .cons ⟨t, rfl⟩ (vals_texts r)
theorem cr_sortedTexts (calm : X.calm = true) : CallR X (.builtin "sorted") (rSortedTexts X.prog X.w) := by
  intro pins s σ H vs us Q I rv told
  obtain ⟨a, S, n, rfl, at0, small, q⟩ := told
  rw [Vals.ref1 rv]
  refine sorted_texts (texts_get I at0) (I.ok.hd calm) small fun s' p out c xs kept gens os fresh at1 texts up members len => ?_
  have free : H p = none := I.hok.fresh fresh
  have short : (xs.map V.str).length ≤ sizeLine := by rw [List.length_map, len, sizeLine_eq]; omega
  have J : Inv X pins σ (upd H p (.lst (xs.map V.str))) s' := I.call' (ch := []) os (Un.laid kept fresh free) (I.hok.laid kept fresh ⟨short, out.toList, c, vals_texts texts, at1⟩) (by rw [gens]; exact I.bare) (fun _ z => nomatch z)
  exact ⟨.ref p, _, J, rfl, q xs p up members len free⟩
end
end Xci

namespace Xci
open PySem PySem.Spec PyProof.Rows L2
/-- the parts of a comprehension, read in its own block -/
structure InBlock (X : Cx) (scope : Scope) (tg : Expr) (ifs : List Expr) (elt : Expr) (g : TG) (tt : TT) (te : TE) : Prop where
  target : ∀ (s : Shared) (H : Hp) (C : Addr) (cl : List (PySem.Str × Addr)) (fp : List Addr), PG (X.blk s H scope (compEnvC scope cl C X.env) fp) tg g
  tests : ∀ (s : Shared) (H : Hp) (C : Addr) (cl : List (PySem.Str × Addr)) (fp : List Addr), PTs (X.blk s H scope (compEnvC scope cl C X.env) fp) ifs tt
  item : ∀ (s : Shared) (H : Hp) (C : Addr) (cl : List (PySem.Str × Addr)) (fp : List Addr), PE (X.blk s H scope (compEnvC scope cl C X.env) fp) elt te
/-- {text for .. in .. if ..} in N turns: D the new set -/
def tTexts (P : Program) (w : World) (wi : TI) (g : TG) (tt : TT) (te : TE) (own : List Nat) : TE := fun σ H Q => wi σ H fun J H1 => ∀ D, H1 D = none → ∃ (N : Nat) (W : Nat → Hp → Prop), W 0 (upd H1 D (TextsO P w D (fun _ => false) 0)) ∧
  (∀ H, W N H → J.stop N H ∧ Q (.ref D) H) ∧ ∀ i H, i < N → W i H → J.go i H ∧ ∀ x H', J.yld i H x H' → g x (wipe σ own) H' fun σ2 H2 => wipe σ2 own = wipe σ own ∧ tt σ2 H2 fun b H3 =>
    if b = true then te σ2 H3 fun y H4 => ∃ (c : Str) (S : Str → Bool) (n : Nat), y = .str c ∧ H4 D = some (TextsO P w D S n) ∧ n + 1 < scanBound ∧ W (i + 1) (upd H4 D (TextsO P w D (fun j => S j || decide (j = c)) (if S c = true then n else n + 1))) else W (i + 1) H3
section
variable {X : Cx} {pins : List (Addr × Obj)} {σ : L2.St} {s : Shared} {H : Hp} {elt tg iter : Expr} {ifs : List Expr} {scope : Scope} {own : List (PySem.Str × Nat)} {pos : Pos} {g : TG} {tt : TT} {te : TE} {J : It} {it D : Addr} {fp : List Addr} {tn : Nat → Heap → Prop} {N : Nat} {W : Nat → Hp → Prop} {R : Result → Shared → Prop}
/-- what holds ahead of turn i, in the block -/
def Ahead (Y : Cx) (ρ : L2.St) (tn : Nat → Heap → Prop) (fp : List Addr) (W : Nat → Hp → Prop) (i : Nat) (s : Shared) : Prop := ∃ H, Inv Y [] ρ H s ∧ tn i s.heap ∧ (∀ b ∈ fp, H b = none) ∧ W i H
set_option maxHeartbeats 1000000 in
theorem texts_turn {C : Addr} {cl : List (PySem.Str × Addr)} (calm : X.calm = true) (B : InBlock X scope tg ifs elt g tt te) (T : Turn X.prog X.w X.K tg J fp it tn)
    (step : ∀ i H, i < N → W i H → J.go i H ∧ ∀ x H', J.yld i H x H' → g x (wipe σ (own.map (·.2))) H' fun σ2 H2 => wipe σ2 (own.map (·.2)) = wipe σ (own.map (·.2)) ∧ tt σ2 H2 fun b H3 =>
      if b = true then te σ2 H3 fun y H4 => ∃ (c : Str) (S : Str → Bool) (n : Nat), y = .str c ∧ H4 D = some (TextsO X.prog X.w D S n) ∧ n + 1 < scanBound ∧ W (i + 1) (upd H4 D (TextsO X.prog X.w D (fun j => S j || decide (j = c)) (if S c = true then n else n + 1))) else W (i + 1) H3)
    {i : Nat} (hi : i < N) {s1 : Shared} (ahead : Ahead (X.blk s H scope (compEnvC scope cl C X.env) fp) (wipe σ (own.map (·.2))) tn fp W i s1) {E : Value → Shared → Prop} {Z : Shared → Prop} (next : ∀ s', Ahead (X.blk s H scope (compEnvC scope cl C X.env) fp) (wipe σ (own.map (·.2))) tn fp W (i + 1) s' → Z s') :
    wpAny (model X.prog X.w) X.A (pyNext (.ref it)) (fun r s1 => ∃ u, r = some u ∧ wpAny (model X.prog X.w) X.A (letOwnedTupleGo tg (.ref it) u) (fun _ s1' => wpAny (model X.prog X.w) X.A (assign tg (compEnvC scope cl C X.env) u) (fun _ s2 =>
      wpAny (model X.prog X.w) X.A (forIn ifs true fun c r => if r = true then do let ok ← isTrue c (compEnvC scope cl C X.env) (eval c (compEnvC scope cl C X.env)); pure (ForInStep.yield ok) else pure (ForInStep.yield r)) (fun ok s3 =>
        if ok = true then wpAny (model X.prog X.w) X.A (eval elt (compEnvC scope cl C X.env)) (fun x s4 => wpAny (model X.prog X.w) X.A (call (.builtin "set.add") [.ref D, x]) (fun _ s5 => Z s5) E s4) E s3
        else Z s3) E s2) E s1') E s1) E s1 := by
  obtain ⟨H1, I1, st, free, w1⟩ := ahead
  obtain ⟨go, yields⟩ := step i H1 hi w1
  have clear : ∀ {ρ : L2.St} {H' : Hp} {s' : Shared}, Inv (X.blk s H scope (compEnvC scope cl C X.env) fp) [] ρ H' s' → (∀ b ∈ fp, H' b = none) → ∀ b ∈ fp, FpOk (X.blk s H scope (compEnvC scope cl C X.env) fp) [] H' b := fun I' n b hb =>
    have away := I'.ok.exf b hb
    ⟨n b hb, away.1, I'.ok.exfs b hb, .inl hb, fun x c e => away.2 x c e, fun p hp => nomatch (show p ∈ ([] : List (Addr × Obj)) from hp)⟩
  refine thnF (T.item (X.blk s H scope (compEnvC scope cl C X.env) fp) rfl rfl rfl calm i [] s1 _ H1 (fun _ _ => False) I1 (clear I1 free) st go) fun r s2 ⟨u, er, stored⟩ => ⟨u, er, thnF stored fun _ s3 ⟨x, H3, I3, rx, told, st3, free3⟩ => ?_⟩
  refine thnF ((B.target s H C cl fp).run _ s3 _ H3 x u _ (I3.pinned (clear I3 free3) (T.obj _ _ st3)) rx (yields x H3 told)) fun _ s4 ⟨σ4, H4, I4, same, q4⟩ => thnF ((B.tests s H C cl fp).run _ s4 σ4 H4 _ I4 q4) fun b s5 ⟨H5, I5, q5⟩ => ?_
  have close : ∀ {s' : Shared} {H' : Hp}, Inv (X.blk s H scope (compEnvC scope cl C X.env) fp) ([] ++ pinsAt fp s3.heap) σ4 H' s' → W (i + 1) H' → Ahead (X.blk s H scope (compEnvC scope cl C X.env) fp) (wipe σ (own.map (·.2))) tn fp W (i + 1) s' := fun {s' H'} I' w' => by
    have still : ∀ b ∈ fp, ∀ o, s3.heap.get? b = some o → s'.heap.get? b = some o ∧ H' b = none := fun b hb o e => by
      have z := I'.pin (b, o) (List.mem_append_right _ (List.mem_append_right _ (mem_pinsAt hb e)))
      exact ⟨z.1, z.2.1⟩
    refine ⟨H', I'.unpinned.weak (by rw [← same, wipe_length]) fun j v e => (wipe_some (same ▸ e)).1, T.keep _ _ _ st3 fun b hb o e => (still b hb o e).1, fun b hb => ?_, w'⟩
    obtain ⟨o, e, _⟩ := T.obj _ _ st3 b hb
    exact (still b hb o e).2
  cases b with
  | false => exact next _ (close I5 q5)
  | true =>
    refine thnF ((B.item s H C cl fp).run _ s5 σ4 H5 _ I5 q5) fun z s6 ⟨y, H6, I6, rz, c, S, n, ey, at6, room, w6⟩ => ?_
    subst ey
    obtain ⟨tk, rfl⟩ : ∃ tk, z = Value.str c tk := rz
    exact texts_add (X := X.blk s H scope (compEnvC scope cl C X.env) fp) I6 at6 room fun s7 I7 => next _ (close I7 w6)
end
section
variable {X : Cx} {pins : List (Addr × Obj)} {σ : L2.St} {s : Shared} {H : Hp} {Q : VK} {elt tg iter : Expr} {ifs : List Expr} {scope : Scope} {own : List (PySem.Str × Nat)} {pos : Pos} {g : TG} {tt : TT} {te : TE} {J : It} {it D : Addr} {fp : List Addr} {tn : Nat → Heap → Prop} {N : Nat} {W : Nat → Hp → Prop}
set_option maxHeartbeats 1000000 in
/-- all turns, from the new block on -/
theorem texts_run (calm : X.calm = true) (nd : X.N.Nodup) (I : Inv X pins σ H s) (ok : BlkOk X.N X.env.scope scope own) (B : InBlock X scope tg ifs elt g tt te) (T : Turn X.prog X.w X.K tg J fp it tn)
    (free : ∀ b ∈ fp, FpOk X pins H b ∧ b < s.heap.objs.size) (st : tn 0 s.heap) (w0 : W 0 H) (ends : ∀ H, W N H → J.stop N H ∧ Q (.ref D) H)
    (step : ∀ i H, i < N → W i H → J.go i H ∧ ∀ x H', J.yld i H x H' → g x (wipe σ (own.map (·.2))) H' fun σ2 H2 => wipe σ2 (own.map (·.2)) = wipe σ (own.map (·.2)) ∧ tt σ2 H2 fun b H3 =>
      if b = true then te σ2 H3 fun y H4 => ∃ (c : Str) (S : Str → Bool) (n : Nat), y = .str c ∧ H4 D = some (TextsO X.prog X.w D S n) ∧ n + 1 < scanBound ∧ W (i + 1) (upd H4 D (TextsO X.prog X.w D (fun j => S j || decide (j = c)) (if S c = true then n else n + 1))) else W (i + 1) H3) :
    codeAny (model X.prog X.w) X.A (.compStart (.SetComp elt [⟨tg, iter, ifs, 0⟩] scope pos) 0 (.ref it) (.ref D) (compEnvC scope (cellsFrom (s.heap.objs.size + 1) scope.names (cloFrom X.env.cells scope.names [])) s.heap.objs.size X.env))
      (compPost (model X.prog X.w) X.A X.xe none (EP X pins σ Q) (.ref D) s.heap.objs.size) { s with heap := pushCells (s.heap.push { cls := .type "dict", data := .dict #[] }) scope.names } := by
  have I1 := block_start I ok nd free
  have kept : ∀ b o, s.heap.get? b = some o → (pushCells (s.heap.push { cls := .type "dict", data := .dict #[] }) scope.names).get? b = some o := fun b o e => pushCells_keeps _ _ _ _ (Heap.get?_push_of_some _ e)
  have st1 : tn 0 (pushCells (s.heap.push { cls := .type "dict", data := .dict #[] }) scope.names) := T.keep _ _ _ st fun b _ o e => kept b o e
  have loop : codeAny (model X.prog X.w) X.A (.compLoop (.SetComp elt [⟨tg, iter, ifs, 0⟩] scope pos) 0 (.ref it) (.ref D) (compEnvC scope (cellsFrom (s.heap.objs.size + 1) scope.names (cloFrom X.env.cells scope.names [])) s.heap.objs.size X.env))
      (compPost (model X.prog X.w) X.A X.xe none (EP X pins σ Q) (.ref D) s.heap.objs.size) { s with heap := pushCells (s.heap.push { cls := .type "dict", data := .dict #[] }) scope.names } := by
    refine PpSet.compLoopS_any (fun m s' => ∃ i, i + m = N ∧ Ahead (X.blk s H scope (compEnvC scope (cellsFrom (s.heap.objs.size + 1) scope.names (cloFrom X.env.cells scope.names [])) s.heap.objs.size X.env) fp) (wipe σ (own.map (·.2))) tn fp W i s') ?_ N ⟨0, Nat.zero_add N, H, I1, st1, fun b hb => (free b hb).1.1, w0⟩
    rintro m s5 ⟨i, im, ahead⟩
    by_cases more : i < N
    · refine thn (texts_turn calm B T step more ahead (Z := fun s' => ∃ m', m' < m ∧ ∃ i, i + m' = N ∧ Ahead _ _ tn fp W i s') fun s' a => ⟨m - 1, by omega, i + 1, by omega, a⟩) fun r s6 h => ?_
      obtain ⟨u, rfl, rest⟩ := h
      exact rest
    · obtain rfl : i = N := by omega
      obtain ⟨H5, I5, st5, free5, w5⟩ := ahead
      obtain ⟨stop, q⟩ := ends H5 w5
      refine thnF (T.done (X.blk s H scope (compEnvC scope (cellsFrom (s.heap.objs.size + 1) scope.names (cloFrom X.env.cells scope.names [])) s.heap.objs.size X.env) fp) rfl rfl rfl calm i [] s5 _ H5 (fun _ _ => False) I5 (fun b hb => ⟨free5 b hb, (I5.ok.exf b hb).1, I5.ok.exfs b hb, .inl hb, fun x c e => (I5.ok.exf b hb).2 x c e, fun p hp => nomatch (show p ∈ ([] : List (Addr × Obj)) from hp)⟩) st5 stop) fun r s6 h => ?_
      obtain ⟨rfl, I6⟩ := h
      have I7 : Inv X pins σ H5 s6 := I.call' (ch := fp) I6.os I6.base I6.hok I6.bare fun b hb => by
        obtain ⟨_, c1, _, c3, c4, c5⟩ := (free b hb).1
        exact ⟨c3, c1, c4, c5⟩
      have gone : H5 s.heap.objs.size = none := I6.free
      obtain ⟨m', names, _⟩ := I6.loc
      obtain ⟨c0, c1, _, c3, c4, c5⟩ := I.fpOk (Nat.le_refl _) gone
      exact ⟨m', names, fun h'' only => ⟨.ref D, H5, I7.turned (t' := s6.toks) (fun b o hb e => (only.2 b hb).trans e) c0 c1 c3 c4 c5, rfl, q⟩⟩
  exact PpSet.codeAny_compStart_set loop (T.self X.A 0 _ _ _ st1 loop)
end
set_option maxHeartbeats 1000000 in
theorem pe_texts {X : Cx} {elt tg iter : Expr} {ifs : List Expr} {scope : Scope} {own : List (PySem.Str × Nat)} {pos : Pos} {wi : TI} {g : TG} {tt : TT} {te : TE} (calm : X.calm = true) (nd : X.N.Nodup) (hi : PI X tg iter wi) (ok : BlkOk X.N X.env.scope scope own)
    (B : InBlock X scope tg ifs elt g tt te) (plain : ∀ x, foldedSetIterable iter X.env x = pure x := by intro _; rfl) : PE X (.SetComp elt [⟨tg, iter, ifs, 0⟩] scope pos) (tTexts X.prog X.w wi g tt te (own.map (·.2))) where
  run pins s σ H Q I told := by
    rw [PpSet.eval_SetComp]
    have closes : ∀ y ∈ scope.names, y.2 = .free → ∃ c, X.env.cells.lookup y.1 = some c := fun y hy e => (ok.free y hy e).elim (fun k => I.ok.has _ (.inl k)) fun k => I.ok.has _ (.inr k)
    refine wpAny_comprehension_free rfl plain (closure_ok closes) ok.kind (fun y hy e => by rw [ok.uniq y hy, e]) (thn (hi.run pins s σ H _ I told) fun _ _ comes => thn comes fun _ s2 ⟨it, fp, tn, J, H2, eit, I2, T, st2, free2, turns⟩ => ?_)
    subst eit
    refine PpSet.newSet_ok (newEnv_comp ?_)
    have unused : H2 s2.heap.objs.size = none := I2.hok.fresh (Nat.le_refl _)
    obtain ⟨N, W, w0, ends, step⟩ := turns _ unused
    have below : ∀ b ∈ fp, b < s2.heap.objs.size := fun b hb => (T.obj _ _ st2 b hb).elim fun o z => Heap.lt_size z.1
    have I3 := I2.laid (t' := s2.toks) (fun b o e => Heap.get?_push_of_some _ e) (Nat.le_refl _) (texts_new (P := X.prog) (w := X.w) SetL.none)
    exact texts_run calm nd I3 ok B T (fun b hb => ⟨⟨by rw [upd_ne (Nat.ne_of_lt (below b hb))]; exact (free2 b hb).1, (free2 b hb).2⟩, by show b < (s2.heap.push _).objs.size; rw [Heap.size_push]; exact Nat.lt_succ_of_lt (below b hb)⟩)
      (T.keep _ _ _ st2 fun b _ o e => Heap.get?_push_of_some _ e) w0 ends step
end Xci

namespace Xci
open PySem PySem.Spec PyProof.Rows L2
/-- a form of a table, or none -/
def formV : Option Str → V
  | some z => .str z
  | none => .non
/-- the unlike forms, rising -/
structure Rising (fs : List (Option Str)) (zs : List Str) : Prop where
  up : sortedS zs = true
  all : ∀ z, z ∈ zs ↔ some z ∈ fs
  nd : zs.Nodup
def spUnlike : Sp := fun vs H Q _ => ∃ (p : Addr) (fs : List (Option Str)), vs = [.ref p] ∧ H p = some (.tup (fs.map formV)) ∧ fs.length < 64 ∧ ∀ (q : Addr) (zs : List Str) (H' : Hp), Rising fs zs → H' q = some (.lst (zs.map V.str)) → Same H H' → Q (.ref q) H'
/-- the class of tables -/
structure TabTxt (K : PySem.W.Frag) (mg : Str → Option Value) (C : Addr) : Prop where
  cl : Cls K C
  nF : NoAttr K C "family"
  nO : NoAttr K C "forms"
  mgC : mg "Table" = some (.ref C)
structure FormCst (mg : Str → Option Value) where
  t1 : Tok
  LONGEST_FORM : mg "LONGEST_FORM" = some (.int 8 t1)
structure TabCst (mg : Str → Option Value) where
  t1 : Tok
  MOST_FORMS : mg "MOST_FORMS" = some (.int 12 t1)
/-- the forms that a table of so many cells can have -/
structure FormsOk (n : Nat) (fs : List (Option Str)) : Prop where
  len : fs.length = n
  few : n ≤ 24
  word : ∀ z, some z ∈ fs → WordOk z
  unlike : ∀ zs, Rising fs zs → zs.length ≤ 12
def spAreForms : Sp := fun vs H Q _ => ∃ (n : Nat) (p : Addr) (fs : List (Option Str)), vs = [.int n, .ref p] ∧ H p = some (.tup (fs.map formV)) ∧ FormsOk n fs ∧ ∀ H', Same H H' → Q (.bl true) H'
def tabF (fam p : Addr) : List (Str × V) := [("family", .ref fam), ("forms", .ref p)]
theorem n_ff : ¬ (("family" : Str) = "forms") := by decide +kernel
theorem putFamily (v : V) : putF "family" v [] = [(("family" : Str), v)] := rfl
theorem putForms (v u : V) : putF "forms" u [(("family" : Str), v)] = [(("family" : Str), v), (("forms" : Str), u)] := by
  show (if ("family" : Str) = "forms" then _ else (("family" : Str), v) :: putF "forms" u []) = _
  rw [if_neg n_ff] <;> rfl
theorem tabF_family (fam p : Addr) : (tabF fam p).lookup ("family" : Str) = some (.ref fam) := by
  unfold tabF
  rw [List.lookup_cons, show ((Str.ofString "family" : Str) == Str.ofString "family") = true from by decide +kernel]
theorem tabF_forms (fam p : Addr) : (tabF fam p).lookup ("forms" : Str) = some (.ref p) := by
  unfold tabF
  rw [List.lookup_cons, show ((Str.ofString "forms" : Str) == Str.ofString "family") = false from by decide +kernel]
  rfl
/-- at b a table of the family at fam with the forms at p -/
def TabAt (C : Addr) (H : Hp) (b fam p : Addr) : Prop := ∃ dx, H b = some (.ins C dx (tabF fam p))
def spTab (CF C : Addr) : Sp := fun vs H Q _ => ∃ (x dx fam : Addr) (many : Int) (pc : Addr) (ys : List V) (p : Addr) (fs : List (Option Str)), vs = [.ref x, .ref fam, .ref p] ∧ H x = some (.ins C dx []) ∧ FamAt CF H fam many pc ∧ x ≠ fam ∧ H pc = some (.tup ys) ∧ H p = some (.tup (fs.map formV)) ∧ FormsOk ys.length fs ∧
  ∀ H' : Hp, TabAt C H' x fam p → (∀ b o, H b = some o → b ≠ x → H' b = some o) → Q .non H'
def spSpoken (C : Addr) : Sp := fun vs H Q _ => ∃ (b fam p : Addr) (fs : List (Option Str)), vs = [.ref b] ∧ TabAt C H b fam p ∧ H p = some (.tup (fs.map formV)) ∧ fs.length < 64 ∧
  ∀ (r : Addr) (zs : List Str) (H' : Hp), Rising fs zs → H' r = some (.tup (zs.map V.str)) → Same H H' → Q (.ref r) H'
def spIsSpoken (C : Addr) : Sp := fun vs H Q _ => ∃ (b fam p : Addr) (fs : List (Option Str)) (z : Str), vs = [.ref b, .str z] ∧ TabAt C H b fam p ∧ H p = some (.tup (fs.map formV)) ∧ some z ∈ fs ∧ Q (.bl true) H
/-- the numbers of the cells with this form -/
def spots (fs : List (Option Str)) (z : Str) : List Nat := (List.range fs.length).filter fun i => decide (fs[i]? = some (some z))
def spCellsOf (C : Addr) : Sp := fun vs H Q _ => ∃ (b fam p : Addr) (fs : List (Option Str)) (z : Str), vs = [.ref b, .str z] ∧ TabAt C H b fam p ∧ H p = some (.tup (fs.map formV)) ∧ fs.length < 64 ∧ some z ∈ fs ∧
  ∀ (r : Addr) (H' : Hp), H' r = some (.tup ((nat2 (spots fs z)).map V.int)) → Same H H' → Q (.ref r) H'
theorem forms_flat (fs : List (Option Str)) : (fs.map formV).all flatV = true := by
  rw [List.all_eq_true]
  intro x hx
  obtain ⟨f, _, rfl⟩ := List.mem_map.mp hx
  cases f <;> rfl
theorem forms_in {fs : List (Option Str)} {z : Str} (h : some z ∈ fs) : inV (.str z) (fs.map formV) = true := by
  unfold inV
  rw [List.any_eq_true]
  refine ⟨.str z, List.mem_map.mpr ⟨some z, h, rfl⟩, ?_⟩
  show eqV (.str z) (.str z) = true
  simp [eqV]
theorem form_scal (f : Option Str) (z : Str) : scal (formV f) (.str z) = true := by cases f <;> rfl
theorem form_is (f : Option Str) (z : Str) : decide (formV f = V.str z) = decide (f = some z) := by
  cases f with
  | none => rfl
  | some y =>
    rw [decide_eq_decide]
    constructor
    · intro h
      injection h with h
      rw [h]
    · intro h
      injection h with h
      rw [h]
      rfl
/-- the spots among the first i cells -/
def spotsTo (fs : List (Option Str)) (z : Str) (i : Nat) : List Nat := (List.range i).filter fun j => decide (fs[j]? = some (some z))
theorem spots_next {fs : List (Option Str)} {z : Str} {i : Nat} {f : Option Str} (e : fs[i]? = some f) : spotsTo fs z (i + 1) = spotsTo fs z i ++ (if decide (f = some z) = true then [i] else []) := by
  unfold spotsTo
  rw [List.range_succ, List.filter_append, List.filter_cons, List.filter_nil, e]
  by_cases q : f = some z
  · rw [if_pos (decide_eq_true q), if_pos (decide_eq_true (congrArg some q))]
  · rw [if_neg (fun h => q (of_decide_eq_true h)), if_neg (fun h => q (Option.some.inj (of_decide_eq_true h)))]
theorem spots_few (fs : List (Option Str)) (z : Str) (i : Nat) : (spotsTo fs z i).length ≤ i := by
  have h := List.length_filter_le (fun j => decide (fs[j]? = some (some z))) (List.range i)
  rw [List.length_range] at h
  exact h
/-- the marks that all cells with this form have -/
def sharedIn (cells : List (List Int)) (fs : List (Option Str)) (z : Str) (m : Int) : Bool := (spots fs z).all fun i => match cells[i]? with
  | some c => decide (m ∈ c)
  | none => true
def spCommon (CF C : Addr) : Sp := fun vs H Q _ => ∃ (b fam p : Addr) (fs : List (Option Str)) (z : Str) (many : Int) (pc : Addr) (ys : List V) (cells : List (List Int)), vs = [.ref b, .str z] ∧ TabAt C H b fam p ∧ H p = some (.tup (fs.map formV)) ∧ FamAt CF H fam many pc ∧ H pc = some (.tup ys) ∧ Mks H ys cells ∧ FamOk many cells ∧ fs.length = cells.length ∧ some z ∈ fs ∧
  ∀ (r : Addr) (ms : List Int) (H' : Hp), H' r = some (.tup (ms.map V.int)) → MarksOk many ms → (∀ m, m ∈ ms ↔ 0 ≤ m ∧ m < many ∧ sharedIn cells fs z m = true) → Same H H' → Q (.ref r) H'
theorem spots_at {fs : List (Option Str)} {z : Str} {j : Nat} : j ∈ spots fs z ↔ fs[j]? = some (some z) := by
  unfold spots
  rw [List.mem_filter, List.mem_range, decide_eq_true_eq]
  exact ⟨fun h => h.2, fun h => ⟨(List.getElem?_eq_some_iff.mp h).1, h⟩⟩
theorem spots_ne {fs : List (Option Str)} {z : Str} (h : some z ∈ fs) : spots fs z ≠ [] := fun e => by
  obtain ⟨j, hj⟩ := List.mem_iff_getElem?.mp h
  have := spots_at.mpr hj
  rw [e] at this
  cases this
theorem spots_len (fs : List (Option Str)) (z : Str) : (spots fs z).length ≤ fs.length := spots_few fs z fs.length
/-- the cells with these numbers -/
def cellsAt (cells : List (List Int)) (js : List Nat) : List (List Int) := js.map fun j => cells.getD j []
theorem cells_placed {H : Hp} {ys : List V} {cells : List (List Int)} (each : Mks H ys cells) : ∀ (js : List Nat), (∀ j ∈ js, j < cells.length) → Mks H (js.map fun j => ys.getD j .non) (cellsAt cells js)
  | [], _ => .nil
  | j :: js, h => by
    have lt := h j List.mem_cons_self
    have len := Paired.length each
    obtain ⟨c, e, m⟩ := Paired.get each (List.getElem?_eq_getElem (show j < ys.length by omega))
    refine .cons ?_ (cells_placed each js fun k hk => h k (List.mem_cons_of_mem _ hk))
    show Xci.Mk H (ys.getD j .non) (cells.getD j [])
    rw [List.getD_eq_getElem?_getD, List.getD_eq_getElem?_getD, e, List.getElem?_eq_getElem (show j < ys.length by omega)]
    exact m
theorem shared_all {cells : List (List Int)} {fs : List (Option Str)} {z : Str} {m : Int} (size : fs.length = cells.length) : sharedIn cells fs z m = (cellsAt cells (spots fs z)).all fun c => decide (m ∈ c) := by
  unfold sharedIn cellsAt
  rw [List.all_map, Bool.eq_iff_iff, List.all_eq_true, List.all_eq_true]
  have one : ∀ j ∈ spots fs z, cells[j]? = some (cells.getD j []) := fun j hj => by
    have lt : j < cells.length := by have := (List.getElem?_eq_some_iff.mp (spots_at.mp hj)).1; omega
    rw [List.getD_eq_getElem?_getD, List.getElem?_eq_getElem lt] <;> rfl
  constructor
  · intro h j hj
    have := h j hj
    rw [one j hj] at this
    exact this
  · intro h j hj
    rw [one j hj]
    exact h j hj
/-- not after -/
def upTo (a b : Str) : Prop := a.cps.toList ≤ b.cps.toList
theorem upTo_of {a b : Str} (h : ltCps b.cps.toList a.cps.toList = false) : upTo a b := by
  rw [ltCps_eq] at h
  exact List.not_lt.mp (of_decide_eq_false h)
theorem rising_pairs : ∀ (x : Str) (r : List Str), risingS x r = true → (∀ y ∈ r, upTo x y) ∧ r.Pairwise upTo
  | _, [], _ => ⟨nofun, .nil⟩
  | x, y :: r, h => by
    have h' : (!ltCps y.cps.toList x.cps.toList && risingS y r) = true := h
    rw [Bool.and_eq_true, Bool.not_eq_true'] at h'
    obtain ⟨a, b⟩ := h'
    obtain ⟨c, d⟩ := rising_pairs y r b
    have xy := upTo_of a
    refine ⟨fun z hz => ?_, List.pairwise_cons.mpr ⟨c, d⟩⟩
    rcases List.mem_cons.mp hz with e | hz
    · rw [e]; exact xy
    · exact List.le_trans xy (c z hz)
theorem sorted_pairs : ∀ (l : List Str), sortedS l = true → l.Pairwise upTo
  | [], _ => .nil
  | x :: r, h => List.pairwise_cons.mpr (rising_pairs x r h)
theorem str_ext {a b : Str} (h : a.cps.toList = b.cps.toList) : a = b := by
  obtain ⟨⟨x⟩⟩ := a
  obtain ⟨⟨y⟩⟩ := b
  have e : x = y := h
  rw [e]
/-- the unlike forms of a table, rising, are one list -/
theorem Rising.one {fs : List (Option Str)} {xs ys : List Str} (h : Rising fs xs) (k : Rising fs ys) : xs = ys :=
  List.Perm.eq_of_pairwise (le := upTo) (fun a b _ _ p q => str_ext (List.le_antisymm p q)) (sorted_pairs xs h.up) (sorted_pairs ys k.up)
    ((List.perm_ext_iff_of_nodup h.nd k.nd).mpr fun z => (h.all z).trans (k.all z).symm)
theorem MarksOk.one {n n' : Int} {xs ys : List Int} (h : MarksOk n xs) (k : MarksOk n' ys) (same : ∀ m, m ∈ xs ↔ m ∈ ys) : xs = ys :=
  List.Perm.eq_of_pairwise (le := (· < ·)) (fun a b _ _ p q => by omega) h.up k.up ((List.perm_ext_iff_of_nodup h.nd k.nd).mpr same)
end Xci

namespace Xci
open PySem L2

section
variable {P : Program} {w : World} {K : PySem.W.Frag} {mg : Str → Option Value} {base : Heap}
abbrev sUnlike : Stmt := top 21
theorem scUnlike : FnScope ["forms", "form"] ["forms"] (defScope sUnlike) := ⟨rfl, rfl, rfl, by decide +kernel, rfl, by decide +kernel, by decide +kernel⟩

theorem ok_unlike {f : Addr} {fd : FuncData} (F : Fun K "_unlike" "_unlike" sUnlike f fd) (T : Txt mg) : FnOk P w K mg base CX0 1 f fd ["forms"] spUnlike := by
  refine F.ok scUnlike (fun vs H Q E h => ?_) (fun cdv A outer s H vs Q E hr h => ?_)
  · obtain ⟨p, fs, rfl, _⟩ := h
    rfl
  · obtain ⟨p, fs, rfl, hp, few, k⟩ := h
    refine ⟨_, (pss_one (ps_ret (pe_callB (cr_sortedTexts rfl) rfl T.sorted (by decide +kernel) (pa_cons (pe_texts (own := [("form", 1)]) rfl scUnlike.nd (pi_tup (pv 0)) (blkOk_by (N := ["forms", "form"]) (sc := defScope sUnlike) (by decide +kernel)) ⟨fun _ _ _ _ _ => (pg_name (i := 1) scUnlike.nd rfl (by first | exact Or.inl rfl | exact Or.inr rfl)), fun _ _ _ _ _ => pts_one (pt_cmpR op_notN (pv 1) pe_non (nomark _)), fun _ _ _ _ _ => (pv 1)⟩) pa_nil)))), ?_⟩
    refine ⟨_, rfl, p, rfl, ⟨_, sqT hp⟩, fun D hD => ⟨fs.length, fun i H2 => ∃ seen : List Str, seen.Nodup ∧ (∀ z, z ∈ seen ↔ some z ∈ fs.take i) ∧ seen.length ≤ i ∧ Same H H2 ∧ H2 D = some (TextsO P w D (fun z => decide (z ∈ seen)) seen.length), ?_, ?_, ?_⟩⟩
    · refine ⟨[], List.nodup_nil, fun z => by simp, Nat.le_refl _, Same.new hD, ?_⟩
      rw [upd_same]
      rfl
    · rintro H2 ⟨seen, nd, all, le, same, at2⟩
      rw [List.take_length] at all
      refine ⟨⟨fs.map formV, sqT (same _ _ hp), by rw [List.length_map]; exact Nat.le_refl _⟩, D, _, _, rfl, at2, by omega, fun xs q up members len free => k q xs _ ⟨up, fun z => ?_, ?_⟩ upd_same (same.trans (Same.new free))⟩
      · rw [members z, decide_eq_true_eq]
        exact all z
      · exact (count_unlike nd fun z => by rw [members z, decide_eq_true_eq]).2.mp len.symm
    · rintro i H2 hi ⟨seen, nd, all, le, same, at2⟩
      have hp2 := same _ _ hp
      refine ⟨⟨fs.map formV, formV fs[i], sqT hp2, by rw [List.getElem?_map, List.getElem?_eq_getElem hi] <;> rfl⟩, fun x H3 told => ?_⟩
      obtain ⟨rfl, told⟩ := told
      have ex : x = formV fs[i] := by
        have z := told _ (sqT hp2)
        rw [List.getElem?_map, List.getElem?_eq_getElem hi] at z
        exact (Option.some.inj z).symm
      subst ex
      have next : fs.take (i + 1) = fs.take i ++ [fs[i]] := by rw [List.take_succ, List.getElem?_eq_getElem hi] <;> rfl
      refine ⟨rfl, _, rfl, rfl, ?_⟩
      cases form : fs[i] with
      | none =>
        refine ⟨_, rfl, ?_⟩
        refine ite2 (fun no => ?_) (fun _ => ⟨seen, nd, fun z => ?_, by omega, same, at2⟩)
        · have no' : (!decide (V.non = V.non)) = true := no
          rw [decide_eq_true rfl] at no'
          cases no'
        · rw [next, form, all z]
          simp
      | some c =>
        refine ⟨_, rfl, ?_⟩
        refine ite2 (fun _ => ?_) (fun no => absurd (show (!decide (V.str c = V.non)) = true by rw [decide_eq_false (fun z : V.str c = V.non => nomatch z)] <;> rfl) no)
        refine ⟨_, rfl, c, _, _, rfl, at2, Nat.lt_of_lt_of_le (Nat.succ_lt_succ (Nat.lt_of_le_of_lt le (Nat.lt_trans hi few))) (by decide), ?_⟩
        have kept : ∀ o, Same H (upd H3 D o) := fun o b u e => by
          rw [upd_ne (ne_of_none e hD)]
          exact same b u e
        by_cases old : c ∈ seen
        · refine ⟨seen, nd, fun z => ?_, by omega, kept _, ?_⟩
          · rw [next, form, List.mem_append, List.mem_singleton, all z]
            constructor
            · exact .inl
            · rintro (h | h)
              · exact h
              · rw [Option.some.inj h]
                exact (all c).mp old
          · rw [upd_same, if_pos (decide_eq_true old)]
            refine congrArg some (congrArg (fun S => TextsO P w D S seen.length) (funext fun j => ?_))
            by_cases e : j = c
            · rw [e, decide_eq_true old] <;> rfl
            · rw [decide_eq_false e, Bool.or_false]
        · refine ⟨c :: seen, List.nodup_cons.mpr ⟨old, nd⟩, fun z => ?_, by rw [List.length_cons]; omega, kept _, ?_⟩
          · rw [next, form, List.mem_append, List.mem_singleton, List.mem_cons, all z]
            constructor
            · rintro (h | h)
              · rw [h]; exact .inr rfl
              · exact .inl h
            · rintro (h | h)
              · exact .inr h
              · exact .inl (Option.some.inj h)
          · rw [upd_same, if_neg (fun q => old (of_decide_eq_true q)), List.length_cons]
            refine congrArg some (congrArg (fun S => TextsO P w D S (seen.length + 1)) (funext fun j => ?_))
            by_cases e : j = c
            · rw [e, decide_eq_false old, decide_eq_true rfl, decide_eq_true List.mem_cons_self] <;> rfl
            · rw [decide_eq_false e, Bool.or_false]
              exact decide_eq_decide.mpr ⟨List.mem_cons_of_mem _, fun h => (List.mem_cons.mp h).resolve_left e⟩
abbrev sIsForm : Stmt := top 13
theorem scIsForm : FnScope ["thing", "letter"] ["thing"] (defScope sIsForm) := ⟨rfl, rfl, rfl, by decide +kernel, rfl, by decide +kernel, by decide +kernel⟩

theorem ok_form {f : Addr} {fd : FuncData} (F : Fun K "is_form" "is_form" sIsForm f fd) (T : Txt mg) (c : FormCst mg) : FnOk P w K mg base CX0 1 f fd ["thing"] spIsForm := by
  refine F.ok scIsForm (fun vs H Q E h => ?_) (fun cdv A outer s H vs Q E hr h => ?_)
  · obtain ⟨z, rfl, _⟩ := h
    rfl
  · obtain ⟨z, rfl, ok, k⟩ := h
    refine ⟨_, (pss_cons (ps_if (PW.pt (pw_or (pt_not (pt_val (pe_callB call_isi rfl T.isinstance (by decide +kernel) (pa_cons (pv 0) (pa_cons (pe_bltn rfl T.str (by decide +kernel) (v := V.ty "str") rfl) pa_nil))))) (pw_or1 (pt_not (pt_chain op_le op_le pe_int (pe_callB call_len rfl T.len PySem.boot_len (pa_cons (pv 0) pa_nil)) (pe_gint rfl c.LONGEST_FORM)))))) (pss_one (ps_ret pe_bl)) pss_nil)
      (pss_cons (ps_for PassesOwn.never rfl (pi_str (pv 0)) (pg_name (i := 1) scIsForm.nd rfl (by first | exact Or.inl rfl | exact Or.inr rfl)) (pss_one (ps_if (pt_not (pt_chain op_le_str op_le_str pe_str (pv 1) pe_str)) (pss_one (ps_ret pe_bl)) pss_nil)))
      (pss_one (ps_ret pe_bl)))), ?_⟩
    refine ⟨_, rfl, _, _, _, _, true, rfl, .ty _, .base (.str _), kit_ty (by decide +kernel), _, rfl, ?_⟩
    refine iteF ?_
    have e1 : decide ((1 : Int) ≤ ((z.length : Nat) : Int)) = true := decide_eq_true (by have := ok.lo; omega)
    have e2 : decide (((z.length : Nat) : Int) ≤ (8 : Int)) = true := decide_eq_true (by have := ok.hi; omega)
    refine ⟨_, rfl, _, z.length, rfl, ⟨Nat.le_of_lt (small1000 (by have := ok.hi; omega)), rfl⟩, _, _, rfl, rfl, _, rfl, ?_⟩
    refine ite2 (fun _ => ?_) (fun hf => absurd e1 hf)
    refine ⟨_, _, rfl, rfl, _, rfl, ?_⟩
    refine ite2 (fun hf => ?_) (fun _ => ?_)
    · have hf' : (!decide (((z.length : Nat) : Int) ≤ (8 : Int))) = true := hf
      rw [e2] at hf'
      cases hf'
    refine ⟨_, rfl, z, rfl, for_it (walk_str (z := z)) (fun i σ H2 => H2 = H ∧ ∃ v : Option V, σ = [some (.str z), v]) ⟨rfl, none, rfl⟩ (fun _ _ _ _ _ => trivial) ?_ ?_⟩
    · rintro i x σ H2 H3 hi ⟨rfl, v, rfl⟩ ⟨rfl, l, hl, rfl⟩
      have mem : l ∈ z.cps.toList := by
        rw [← Array.getElem?_toList] at hl
        exact List.mem_of_getElem? hl
      obtain ⟨b1, b2⟩ := ok.az l mem
      have q1 : (!decide ((⟨#[l]⟩ : Str).cps.toList < (Str.ofString "a").cps.toList)) = true := by
        have : (Str.ofString "a").cps.toList = [97] := by decide +kernel
        rw [this]
        show (!decide ([l] < [97])) = true
        rw [decide_eq_false (fun h => by have := List.cons_lt_cons_iff.mp h; simp at this; omega)]
        rfl
      have q2 : (!decide ((Str.ofString "z").cps.toList < (⟨#[l]⟩ : Str).cps.toList)) = true := by
        have : (Str.ofString "z").cps.toList = [122] := by decide +kernel
        rw [this]
        show (!decide ([122] < [l])) = true
        rw [decide_eq_false (fun h => by have := List.cons_lt_cons_iff.mp h; simp at this; omega)]
        rfl
      refine ⟨_, rfl, _, _, rfl, rfl, _, rfl, ?_⟩
      refine ite2 (fun _ => ?_) (fun hf => absurd q1 hf)
      refine ⟨_, _, rfl, rfl, _, rfl, ?_⟩
      refine ite2 (fun hf => ?_) (fun _ => ⟨rfl, _, rfl⟩)
      have hf' : (!(!decide ((Str.ofString "z").cps.toList < (⟨#[l]⟩ : Str).cps.toList))) = true := hf
      rw [q2] at hf'
      cases hf'
    · rintro σ H2 ⟨rfl, v, rfl⟩
      exact k
abbrev sAreForms : Stmt := top 20
theorem scAreForms : FnScope ["length", "thing", "form"] ["length", "thing"] (defScope sAreForms) := ⟨rfl, rfl, rfl, by decide +kernel, rfl, by decide +kernel, by decide +kernel⟩

theorem ok_areForms {f : Addr} {fd : FuncData} (F : Fun K "_are_forms" "_are_forms" sAreForms f fd) (T : Txt mg) (c : TabCst mg) (HF : Has P w K mg base "is_form" ["thing"] 1 spIsForm) (HU : Has P w K mg base "_unlike" ["forms"] 1 spUnlike) : FnOk P w K mg base CX0 2 f fd ["length", "thing"] spAreForms := by
  refine F.ok scAreForms (fun vs H Q E h => ?_) (fun cdv A outer s H vs Q E hr h => ?_)
  · obtain ⟨n, p, fs, rfl, _⟩ := h
    rfl
  · obtain ⟨n, p, fs, rfl, hp, ok, k⟩ := h
    refine ⟨_, (pss_cons (ps_if (PW.pt (pw_or (pt_not (pt_val (pe_callB call_isi rfl T.isinstance (by decide +kernel) (pa_cons (pv 1) (pa_cons (pe_bltn rfl T.tuple (by decide +kernel) (v := V.ty "tuple") rfl) pa_nil))))) (pw_or1 (pt_cmpR op_ne (pe_callB call_len rfl T.len PySem.boot_len (pa_cons (pv 1) pa_nil)) (pv 0) (nomark _))))) (pss_one (ps_ret pe_bl)) pss_nil)
      (pss_cons (ps_for PassesOwn.never rfl (pi_tup (pv 1)) (pg_name (i := 2) scAreForms.nd rfl (by first | exact Or.inl rfl | exact Or.inr rfl)) (pss_one (ps_if (PW.pt (pw_and (pt_cmpR op_notN (pv 2) pe_non (nomark _)) (pw_and1 (pt_not (pt_val (pe_callH HF (hr.mono (by decide)) rfl (pa_cons (pv 2) pa_nil))))))) (pss_one (ps_ret pe_bl)) pss_nil)))
      (pss_one (ps_ret (pe_cmpR op_le (pe_callB call_len rfl T.len PySem.boot_len (pa_cons (pe_callH HU (hr.mono (by decide)) rfl (pa_cons (pv 1) pa_nil)) pa_nil)) (pe_gint rfl c.MOST_FORMS) (nomark _)))))), ?_⟩
    have size : (fs.map formV).length = n := by rw [List.length_map]; exact ok.len
    have few := ok.few
    refine ⟨_, rfl, _, _, _, _, true, rfl, .ty _, .base (.tup hp), kit_ty (by decide +kernel), _, rfl, ?_⟩
    refine iteF ?_
    refine ⟨_, rfl, _, n, rfl, .inr ⟨_, sqT hp, size.symm⟩, _, rfl, rfl, _, rfl, ?_⟩
    refine ite2 (fun no => ?_) (fun _ => ?_)
    · have no' : (!decide (V.int (n : Int) = V.int (n : Int))) = true := no
      rw [decide_eq_true rfl] at no'
      cases no'
    refine ⟨_, rfl, p, rfl, ⟨_, sqT hp⟩, for_tup (K := K) (a := p) (xs := fs.map formV) (fun i σ H2 => H2 = H ∧ ∃ v : Option V, σ = [some (.int n), some (.ref p), v]) ⟨rfl, none, rfl⟩ (fun i σ H2 _ ⟨e, _⟩ => by rw [e]; exact sqT hp) ?_ ?_⟩
    · rintro i y σ H2 hi ⟨rfl, v, rfl⟩
      rw [List.getElem?_map] at hi
      obtain ⟨form, at_, rfl⟩ := Option.map_eq_some_iff.mp hi
      refine ⟨_, rfl, rfl, _, rfl, ?_⟩
      cases form with
      | none =>
        refine ite2 (fun no => ?_) (fun _ => iteF ⟨rfl, _, rfl⟩)
        have no' : (!decide (V.non = V.non)) = true := no
        rw [decide_eq_true rfl] at no'
        cases no'
      | some z =>
        refine ite2 (fun _ => ?_) (fun no => absurd (show (!decide (V.str z = V.non)) = true by rw [decide_eq_false (fun q : V.str z = V.non => nomatch q)] <;> rfl) no)
        refine ⟨_, rfl, z, rfl, ok.word z (List.mem_of_getElem? at_), _, rfl, ?_⟩
        exact iteF ⟨rfl, _, rfl⟩
    · rintro σ H2 ⟨rfl, v, rfl⟩
      refine ⟨_, rfl, p, fs, rfl, hp, (by rw [ok.len]; omega), fun q zs H' rise hq same => ⟨_, zs.length, rfl, .inl ⟨_, SqL.of hq, by rw [List.length_map]⟩, _, _, rfl, rfl, ?_⟩⟩
      show Q (V.bl (decide (((zs.length : Nat) : Int) ≤ 12))) H'
      rw [decide_eq_true (show ((zs.length : Nat) : Int) ≤ 12 from by have := ok.unlike zs rise; omega)]
      exact k _ same
abbrev sTableInit : Stmt := inClass (top 19) 0
theorem scTableInit : FnScope ["self", "family", "forms"] ["self", "family", "forms"] (defScope sTableInit) := ⟨rfl, rfl, rfl, by decide +kernel, rfl, by decide +kernel, by decide +kernel⟩

theorem ok_table {f C CF : Addr} {fd : FuncData} (F : Fun K "__init__" "Table.__init__" sTableInit f fd) (T : Txt mg) (TT : TabTxt K mg C) (FT : FamTxt K mg CF) (HA : Has P w K mg base "_are_forms" ["length", "thing"] 2 spAreForms) :
    FnOk P w K mg base CX0 3 f fd ["self", "family", "forms"] (spTab CF C) := by
  refine F.ok scTableInit (fun vs H Q E h => ?_) (fun cdv A outer s H vs Q E hr h => ?_)
  · obtain ⟨x, dx, fam, many, pc, ys, p, fs, rfl, _⟩ := h
    rfl
  · obtain ⟨x, dx, fam, many, pc, ys, p, fs, rfl, hx, ⟨df, hf⟩, ne, hc, hp, ok, k⟩ := h
    refine ⟨_, (pss_cons (ps_if (pt_not (pt_val (pe_callH HA (hr.mono (by decide)) rfl (pa_cons (pe_callB call_len rfl T.len PySem.boot_len (pa_cons (pe_fld (pv 1) rfl) pa_nil)) (pa_cons (pv 2) pa_nil))))) (pss_one ps_never) pss_nil)
      (pss_cons (ps_fld (pv 0) (pv 1) rfl)
      (pss_one (ps_fld (pv 0) (pv 2) rfl)))), ?_⟩
    refine ⟨_, rfl, fam, CF, df, _, _, rfl, hf, FT.cl, FT.nC, famF_cells _ _, _, ys.length, rfl, .inr ⟨_, sqT hc, rfl⟩, _, rfl, ys.length, p, fs, rfl, hp, ok, fun H' same => ?_⟩
    refine ⟨_, rfl, ?_⟩
    refine iteF ?_
    refine ⟨_, rfl, _, rfl, x, C, dx, [], rfl, same _ _ hx, TT.cl, TT.nF, (by show 0 < 1000; decide), ?_⟩
    refine ⟨_, rfl, _, rfl, x, C, dx, _, rfl, upd_same, TT.cl, TT.nO, (by show 1 < 1000; decide), ?_⟩
    refine k _ ⟨dx, ?_⟩ fun b o e hb => ?_
    · rw [upd_same, putFamily, putForms]
      rfl
    · rw [upd_ne hb, upd_ne hb]
      exact same b o e
abbrev sSpoken : Stmt := top 22
theorem scSpoken : FnScope ["table"] ["table"] (defScope sSpoken) := ⟨rfl, rfl, rfl, by decide +kernel, rfl, by decide +kernel, by decide +kernel⟩

theorem ok_spoken {f C : Addr} {fd : FuncData} (F : Fun K "spoken" "spoken" sSpoken f fd) (T : Txt mg) (TT : TabTxt K mg C) (HU : Has P w K mg base "_unlike" ["forms"] 1 spUnlike) :
    FnOk P w K mg base CX0 2 f fd ["table"] (spSpoken C) := by
  refine F.ok scSpoken (fun vs H Q E h => ?_) (fun cdv A outer s H vs Q E hr h => ?_)
  · obtain ⟨b, fam, p, fs, rfl, _⟩ := h
    rfl
  · obtain ⟨b, fam, p, fs, rfl, ⟨dx, hb⟩, hp, few, k⟩ := h
    refine ⟨_, (pss_one (ps_ret (pe_callTy call_tuple_of rfl T.tuple (by decide +kernel) (pa_cons (pe_callH HU (hr.mono (by decide)) rfl (pa_cons (pe_fld (pv 0) rfl) pa_nil)) pa_nil)))), ?_⟩
    refine ⟨_, rfl, b, C, dx, _, _, rfl, hb, TT.cl, TT.nO, tabF_forms _ _, p, fs, rfl, hp, few, fun q zs H' rise hq same => ⟨q, _, rfl, .inl ⟨SqL.of hq, fun r free => ?_⟩⟩⟩
    exact k r zs _ rise upd_same (same.trans (Same.new free))
end
end Xci

namespace Xci
open PySem L2

section
variable {P : Program} {w : World} {K : PySem.W.Frag} {mg : Str → Option Value} {base : Heap}
abbrev sLawLots : Stmt := top 64
theorem scLawLots : FnScope ["items", "found", "item", "lot"] ["items"] (defScope sLawLots) := ⟨rfl, rfl, rfl, by decide +kernel, rfl, by decide +kernel, by decide +kernel⟩

theorem ok_lots {f : Addr} {fd : FuncData} (F : Fun K "_law_lots" "_law_lots" sLawLots f fd) : FnOk P w K mg base CX0 1 f fd ["items"] (spLots K) := by
  refine F.ok scLawLots (fun vs H Q E h => ?_) (fun cdv A outer s H vs Q E hr h => ?_)
  · obtain ⟨p, ns, rfl, _⟩ := h
    rfl
  · obtain ⟨p, ns, rfl, hS, hlen, k⟩ := h
    refine ⟨_, (pss_cons (ps_set (i := 1) scLawLots.nd rfl (by first | exact Or.inl rfl | exact Or.inr rfl) (pe_lst (pa_cons (pe_tup pa_nil) pa_nil)))
      (pss_cons (ps_for PassesOwn.never rfl (pi_tup (pv 0)) (pg_name (i := 2) scLawLots.nd rfl (by first | exact Or.inl rfl | exact Or.inr rfl)) (pss_one (ps_set (i := 1) scLawLots.nd rfl (by first | exact Or.inl rfl | exact Or.inr rfl) (pe_op op_cat (pv 1) (pe_lc (own := [("lot", 3)]) rfl scLawLots.nd (pi_list (pv 1)) (blkOk_by (N := ["items", "found", "item", "lot"]) (sc := defScope sLawLots) (by decide +kernel)) (fun _ _ _ _ _ => (pg_name (i := 3) scLawLots.nd rfl (by first | exact Or.inl rfl | exact Or.inr rfl))) (fun _ _ _ _ _ => pts_nil) (fun _ _ _ _ _ => (pe_op (show OpR _ _ (rCatA K) from op_catA) (pv 3) (pe_tup (pa_cons (pv 2) pa_nil)))))))))
      (pss_one (ps_ret (pv 1))))), ?_⟩
    refine ⟨Nat.zero_le _, fun t ht => ⟨(by show 1 ≤ sizeLine; decide), fun q hq => ?_⟩⟩
    have s0 : Same H (upd (upd H t (.tup [])) q (.lst [.ref t])) := (Same.new ht).trans (Same.new hq)
    have et : (upd (upd H t (.tup [])) q (.lst [.ref t])) t = some (.tup []) := by rw [upd_ne (ne_of_none upd_same hq)]; exact upd_same
    have hq0 : H q = Option.none := (Same.new ht).free hq
    have eq : (upd (upd H t (.tup [])) q (.lst [.ref t])) q = some (.lst [.ref t]) := upd_same
    generalize upd (upd H t (.tup [])) q (.lst [.ref t]) = H1 at *
    refine ⟨_, rfl, p, rfl, ⟨_, sqT_same hS s0⟩, for_tup (K := K) (a := p) (xs := ns.map V.int) (fun i σ H2 => ∃ (u : Addr) (ys : List V) (v : Option V), σ = [some (.ref p), some (.ref u), v, none] ∧ Same H H2 ∧ H u = Option.none ∧ H2 u = some (.lst ys) ∧ Mks H2 ys (lots (ns.take i)))
      ⟨q, [.ref t], none, rfl, s0, hq0, eq, Paired.one ⟨t, rfl, et⟩⟩ (fun i σ H2 _ ⟨_, _, _, _, e, _⟩ => sqT_same hS e) ?_ ?_⟩
    · rintro i y σ H2 hi ⟨u, ys, v, rfl, sm, hu0, eu, hm⟩
      obtain ⟨x, hx, rfl⟩ := int_of hi
      have hlt := (List.getElem?_eq_some_iff.mp hx).1
      have hys : ys.length ≤ 64 := by
        have e := Paired.length hm
        rw [lots_len, List.length_take] at e
        have : 2 ^ min i ns.length ≤ 2 ^ 6 := Nat.pow_le_pow_right (by decide) (by omega)
        omega
      refine ⟨_, rfl, _, rfl, u, rfl, ⟨_, SqL.of eu⟩, fun D hD => ?_⟩
      have hD0 : H D = Option.none := sm.free hD
      refine lc_list (K := K) (a := u) (xs := ys) (fun j H4 => ∃ zs : List V, Same H2 H4 ∧ H4 D = some (.lst zs) ∧ Mks H4 zs (((lots (ns.take i)).take j).map (· ++ [x]))) ⟨[], Same.new hD, upd_same, .nil⟩ (fun j H4 _ ⟨_, e, _⟩ => SqL.of (e _ _ eu)) ?_ ?_
      · rintro j lot H4 hj ⟨zs, sm4, e4, m4⟩
        obtain ⟨ms, hms, tl⟩ := Paired.get hm hj
        obtain ⟨tp, rfl, htp⟩ := tl
        have htp4 := sm4 _ _ htp
        have hjl := (List.getElem?_eq_some_iff.mp hj).1
        have hzl : zs.length ≤ 64 := by
          have e := Paired.length m4
          rw [List.length_map, List.length_take] at e
          omega
        have et : ((lots (ns.take i)).take (j + 1)).map (· ++ [x]) = ((lots (ns.take i)).take j).map (· ++ [x]) ++ [ms ++ [x]] := by
          rw [List.take_add_one, hms, List.map_append]
          rfl
        refine ⟨rfl, _, rfl, _, rfl, (by show 1 ≤ sizeLine; decide), fun r hr => ?_⟩
        have e5 : (upd H4 r (.tup [.int x])) r = some (.tup [.int x]) := upd_same
        have sm5 : Same H4 (upd H4 r (.tup [.int x])) := Same.new hr
        generalize upd H4 r (.tup [.int x]) = H5 at *
        have nDr : ∀ {c : Addr} {o : HO}, H2 c = some o → c ≠ D := fun h => ne_of_none h hD
        have mkl : ms.length ≤ 64 := by
          have q := (lots_sub (List.mem_of_getElem? hms)).length_le
          rw [List.length_take] at q
          omega
        refine ⟨tp, r, _, _, rfl, rfl, sqT (sm5 _ _ htp4), sqT e5, ?_, fun hnil => ?_, ?_, fun hne hne2 z hz => ?_⟩
        · rw [List.length_map]
          show ms.length + 1 ≤ sizeLine
          exact Nat.le_of_lt (small1000 (by omega))
        · refine ⟨zs, sm5 _ _ e4, small1000 (by omega), ?_⟩
          refine ⟨zs ++ [.ref r], fun b o h => by rw [upd_ne (nDr h)]; exact sm5 _ _ (sm4 _ _ h), upd_same, ?_⟩
          rw [et]
          have hms0 : ms = [] := by cases ms with
            | nil => rfl
            | cons a b => cases hnil
          subst hms0
          have tf : TFr H5 (upd H5 D (.lst (zs ++ [.ref r]))) := TFr.lst (sm5 _ _ e4)
          exact Paired.app ((m4.keep (TFr.same sm5)).keep tf) (Paired.one ⟨r, rfl, tf _ _ e5⟩)
        · intro _ hy
          cases hy
        · have e6 : (upd H5 z (.tup (ms.map V.int ++ [.int x]))) z = some (.tup (ms.map V.int ++ [.int x])) := upd_same
          have sm6 : Same H5 (upd H5 z (.tup (ms.map V.int ++ [.int x]))) := Same.new hz
          generalize upd H5 z (.tup (ms.map V.int ++ [.int x])) = H6 at *
          refine ⟨zs, sm6 _ _ (sm5 _ _ e4), small1000 (by omega), ?_⟩
          refine ⟨zs ++ [.ref z], fun b o h => by rw [upd_ne (nDr h)]; exact sm6 _ _ (sm5 _ _ (sm4 _ _ h)), upd_same, ?_⟩
          rw [et]
          have tf : TFr H6 (upd H6 D (.lst (zs ++ [.ref z]))) := TFr.lst (sm6 _ _ (sm5 _ _ e4))
          exact Paired.app ((m4.keep (TFr.same (sm5.trans sm6))).keep tf) (Paired.one ⟨z, rfl, by rw [List.map_append]; exact tf _ _ e6⟩)
      · rintro H4 ⟨zs, sm4, e4, m4⟩
        rw [List.take_of_length_le (by rw [Paired.length hm]; exact Nat.le_refl _)] at m4
        have hzl := Paired.length m4
        rw [List.length_map, ← Paired.length hm] at hzl
        refine ⟨u, D, ys, zs, rfl, rfl, sm4 _ _ eu, e4, Nat.le_of_lt (small1000 (by omega)), fun r hr => ?_⟩
        have sr : Same H4 (upd H4 r (.lst (ys ++ zs))) := Same.new hr
        refine ⟨r, ys ++ zs, some (.int x), rfl, (sm.trans sm4).trans sr, (sm.trans sm4).free hr, upd_same, ?_⟩
        have et : ns.take (i + 1) = ns.take i ++ [x] := by rw [List.take_add_one, hx]; rfl
        rw [et, lots_snoc]
        exact Paired.app (hm.keep (TFr.same (sm4.trans sr))) (m4.keep (TFr.same sr))
    · rintro σ H2 ⟨u, ys, v, rfl, sm, hu0, eu, hm⟩
      rw [List.length_map, List.take_length] at hm
      exact ⟨_, rfl, k u ys H2 eu hm sm hu0⟩
end
end Xci

namespace Xci
open PySem L2
/-! ### things that compare: what is written in a tuple or a list of ints, texts, None -/
def pd : V → PyData
  | .int i => .int i
  | .str x => .str x
  | .bl b => .bool b
  | _ => .none
def okV : V → Bool
  | .int _ => true
  | .str x => PyData.strOk x
  | .bl _ => true
  | .non => true
  | _ => false
theorem dpV {K : PySem.W.Frag} {H : Hp} {x : V} (h : okV x = true) : Dp K H x (pd x) := by
  cases x with
  | int i => exact .int i
  | str z => exact .str z
  | bl b => exact .bl b
  | non => exact .non
  | byt _ => cases h
  | flt _ => cases h
  | ref _ => cases h
  | ty _ => cases h
theorem layV {x : V} (h : okV x = true) : PyData.canLay0 (pd x) = true ∧ PyData.depth (pd x) = 0 := by
  cases x with
  | int i => exact ⟨by simp [pd, PyData.canLay0], by simp [pd, PyData.depth]⟩
  | str z => exact ⟨by simpa [pd, PyData.canLay0, okV] using h, by simp [pd, PyData.depth]⟩
  | bl b => exact ⟨by simp [pd, PyData.canLay0], by simp [pd, PyData.depth]⟩
  | non => exact ⟨by simp [pd, PyData.canLay0], by simp [pd, PyData.depth]⟩
  | byt _ => cases h
  | flt _ => cases h
  | ref _ => cases h
  | ty _ => cases h
theorem dpVs {K : PySem.W.Frag} {H : Hp} : ∀ {xs : List V}, (∀ x ∈ xs, okV x = true) → DpAll K H xs (xs.map pd)
  | [], _ => .nil
  | x :: r, h => .cons (dpV (h x List.mem_cons_self)) (dpVs fun y hy => h y (List.mem_cons_of_mem _ hy))
theorem layVs : ∀ {xs : List V}, (∀ x ∈ xs, okV x = true) → PyData.canLayAll0 (xs.map pd) = true ∧ PyData.depthAll (xs.map pd) = 0
  | [], _ => ⟨rfl, rfl⟩
  | x :: r, h => by
    obtain ⟨a, b⟩ := layV (h x List.mem_cons_self)
    obtain ⟨c, d⟩ := layVs (xs := r) fun y hy => h y (List.mem_cons_of_mem _ hy)
    rw [List.map_cons]
    simp [PyData.canLayAll0, PyData.depthAll, a, b, c, d]
theorem sh_tup {xs : List V} (h : ∀ x ∈ xs, okV x = true) : SeqAt.shaped (.tuple (xs.map pd)) = true := by
  obtain ⟨a, b⟩ := layVs h
  simp [SeqAt.shaped, PyData.canLay0, PyData.depth, a, b]
theorem sh_lst {xs : List V} (h : ∀ x ∈ xs, okV x = true) : SeqAt.shaped (.list (xs.map pd)) = true := by
  obtain ⟨a, b⟩ := layVs h
  simp [SeqAt.shaped, PyData.canLay0, PyData.depth, a, b]
theorem eqv_same {d : PyData} (h : SeqAt.shaped d = true) : PyData.eqv d d = true := SeqAt.eqv_refl d (SeqAt.canLay_of_shaped h)
/-- u != v of two tuples with the same things: no -/
theorem ne_tup {K : PySem.W.Frag} {H : Hp} {u v : V} {xs : List V} {Q : V → Hp → Prop} (tu : Tup H u xs) (tv : Tup H v xs) (ok : ∀ x ∈ xs, okV x = true) (q : Q (.bl false) H) : rNeD K u v H Q := by
  obtain ⟨a, rfl, ha⟩ := tu
  obtain ⟨b, rfl, hb⟩ := tv
  refine ⟨.tuple (xs.map pd), .tuple (xs.map pd), .tup (sqT ha) (dpVs ok), .tup (sqT hb) (dpVs ok), sh_tup ok, sh_tup ok, ?_⟩
  rw [eqv_same (sh_tup ok)]
  exact q
theorem ne_lst {K : PySem.W.Frag} {H : Hp} {a b : Addr} {xs : List V} {Q : V → Hp → Prop} (ha : H a = some (.lst xs)) (hb : H b = some (.lst xs)) (ok : ∀ x ∈ xs, okV x = true) (q : Q (.bl false) H) : rNeD K (.ref a) (.ref b) H Q := by
  refine ⟨.list (xs.map pd), .list (xs.map pd), .lst (SqL.of ha) (dpVs ok), .lst (SqL.of hb) (dpVs ok), sh_lst ok, sh_lst ok, ?_⟩
  rw [eqv_same (sh_lst ok)]
  exact q
theorem ok_intsV (ns : List Int) : ∀ x ∈ ns.map V.int, okV x = true := fun x hx => by
  obtain ⟨n, _, rfl⟩ := List.mem_map.mp hx
  rfl
theorem WordOk.strOk {z : Str} (h : WordOk z) : PyData.strOk z = true := by
  unfold PyData.strOk
  rw [← Array.all_toList, List.all_eq_true]
  intro c hc
  have := h.az c hc
  exact decide_eq_true (by omega)
theorem ok_strsV {zs : List Str} (h : ∀ z ∈ zs, WordOk z) : ∀ x ∈ zs.map V.str, okV x = true := fun x hx => by
  obtain ⟨z, hz, rfl⟩ := List.mem_map.mp hx
  exact (h z hz).strOk
theorem ok_formsV {fs : List (Option Str)} (h : ∀ z, some z ∈ fs → WordOk z) : ∀ x ∈ fs.map formV, okV x = true := fun x hx => by
  obtain ⟨f, hf, rfl⟩ := List.mem_map.mp hx
  cases f with
  | none => rfl
  | some z => exact (h z hf).strOk
theorem cutTo (xs : List V) (k : Nat) : cutV xs none (some (k : Int)) = xs.take k := by
  unfold cutV
  have e0 : HT.sIx xs.length 0 none = 0 := rfl
  rw [e0, HT.sIx_nat, List.drop_zero, Nat.sub_zero, ← List.take_take, List.take_length]
theorem forms_inV (z : Str) (fs : List (Option Str)) : inV (.str z) (fs.map formV) = decide (some z ∈ fs) := by
  unfold inV
  rw [List.any_map]
  induction fs with
  | nil => rfl
  | cons a r ih =>
    rw [List.any_cons, ih]
    cases a with
    | none =>
      show (false || decide (some z ∈ r)) = decide (some z ∈ none :: r)
      simp
    | some y =>
      show ((y == z) || decide (some z ∈ r)) = decide (some z ∈ some y :: r)
      by_cases e : y = z
      · subst e; simp
      · have e' : ¬ z = y := fun q => e q.symm
        simp [e, e']
/-- the numbers of the open cells -/
def openN (fs : List (Option Str)) (i : Nat) : List Nat := (List.range i).filter fun j => decide (fs[j]? = some none)
theorem open_next {fs : List (Option Str)} {i : Nat} {f : Option Str} (e : fs[i]? = some f) : openN fs (i + 1) = openN fs i ++ (if f = none then [i] else []) := by
  unfold openN
  rw [List.range_succ, List.filter_append, List.filter_cons, List.filter_nil, e]
  by_cases q : f = none
  · rw [if_pos q, if_pos (decide_eq_true (congrArg some q))]
  · rw [if_neg q, if_neg (fun h => q (Option.some.inj (of_decide_eq_true h)))]
theorem open_len (fs : List (Option Str)) (i : Nat) : (openN fs i).length ≤ i := by
  have h := List.length_filter_le (fun j => decide (fs[j]? = some none)) (List.range i)
  rw [List.length_range] at h
  exact h
/-- the cells that are open or have one of these forms, each once -/
structure SeenOk (fs : List (Option Str)) (done : List Str) (js : List Nat) : Prop where
  nd : js.Nodup
  all : ∀ j, j ∈ js ↔ fs[j]? = some none ∨ ∃ z ∈ done, fs[j]? = some (some z)
theorem SeenOk.start (fs : List (Option Str)) : SeenOk fs [] (openN fs fs.length) := by
  refine ⟨List.Sublist.nodup List.filter_sublist List.nodup_range, fun j => ?_⟩
  unfold openN
  rw [List.mem_filter, List.mem_range, decide_eq_true_eq]
  constructor
  · exact fun h => .inl h.2
  · rintro (h | ⟨z, hz, _⟩)
    · exact ⟨(List.getElem?_eq_some_iff.mp h).1, h⟩
    · cases hz
theorem spots_nd (fs : List (Option Str)) (z : Str) : (spots fs z).Nodup := List.Sublist.nodup List.filter_sublist List.nodup_range
theorem SeenOk.next {fs : List (Option Str)} {done : List Str} {js : List Nat} {z : Str} (h : SeenOk fs done js) (new : z ∉ done) : SeenOk fs (done ++ [z]) (js ++ spots fs z) := by
  refine ⟨List.nodup_append.mpr ⟨h.nd, spots_nd fs z, fun a ha b hb e => ?_⟩, fun j => ?_⟩
  · subst e
    have q := spots_at.mp hb
    rcases (h.all a).mp ha with r | ⟨y, hy, r⟩
    · rw [q] at r; cases r
    · rw [q] at r
      have : z = y := Option.some.inj (Option.some.inj r)
      subst this
      exact new hy
  · rw [List.mem_append, h.all j, spots_at]
    constructor
    · rintro ((r | ⟨y, hy, r⟩) | r)
      · exact .inl r
      · exact .inr ⟨y, List.mem_append_left _ hy, r⟩
      · exact .inr ⟨z, List.mem_append_right _ (List.mem_singleton.mpr rfl), r⟩
    · rintro (r | ⟨y, hy, r⟩)
      · exact .inl (.inl r)
      · rcases List.mem_append.mp hy with hy | hy
        · exact .inl (.inr ⟨y, hy, r⟩)
        · rw [List.mem_singleton.mp hy] at r
          exact .inr r
theorem SeenOk.whole {fs : List (Option Str)} {zs : List Str} {js : List Nat} (h : SeenOk fs zs js) (r : ∀ z, z ∈ zs ↔ some z ∈ fs) : js.Perm (List.range fs.length) := by
  refine (List.perm_ext_iff_of_nodup h.nd List.nodup_range).mpr fun j => ?_
  rw [h.all j, List.mem_range]
  constructor
  · rintro (q | ⟨z, _, q⟩)
    · exact (List.getElem?_eq_some_iff.mp q).1
    · exact (List.getElem?_eq_some_iff.mp q).1
  · intro lt
    have q : fs[j]? = some fs[j] := List.getElem?_eq_getElem lt
    cases e : fs[j] with
    | none => rw [e] at q; exact .inl q
    | some z =>
      rw [e] at q
      exact .inr ⟨z, (r z).mpr (List.mem_of_getElem? q), q⟩
/-- sorted numbers that are a perm of 0 .. n are these -/
theorem sorted_rng {ns : List Int} {js : List Nat} {n : Nat} (p : ns.Perm (nat2 js)) (q : js.Perm (List.range n)) (up : ns.Pairwise (· ≤ ·)) : ns = rng (n : Int) := by
  have e : rng (n : Int) = nat2 (List.range n) := by unfold rng nat2; rw [Int.toNat_natCast]
  have pp : ns.Perm (rng (n : Int)) := by
    rw [e]
    exact p.trans (q.map _)
  refine List.Perm.eq_of_pairwise (le := (· ≤ ·)) (fun a b _ _ h k => by omega) up ((rng_ok (n : Int)).up.imp fun h => by omega) pp
/-- told forms that came for the first time, as they come -/
theorem first_next {fs : List (Option Str)} {i : Nat} {seen : List Str} {z : Str} (h : ∀ y, y ∈ seen ↔ some y ∈ fs.take i) (e : fs[i]? = some (some z)) : ∀ y, y ∈ (if some z ∈ fs.take i then seen else seen ++ [z]) ↔ some y ∈ fs.take (i + 1) := fun y => by
  rw [List.take_add_one, e, List.mem_append]
  split
  · rename_i old
    rw [h y]
    constructor
    · exact .inl
    · rintro (q | q)
      · exact q
      · have : y = z := Option.some.inj (List.mem_singleton.mp q)
        rw [this]; exact old
  · rw [List.mem_append, h y, List.mem_singleton]
    constructor
    · rintro (q | q)
      · exact .inl q
      · rw [q]; exact .inr (List.mem_singleton.mpr rfl)
    · rintro (q | q)
      · exact .inl q
      · exact .inr (Option.some.inj (List.mem_singleton.mp q))
end Xci

set_option maxHeartbeats 4000000
/-! ### sorted(a list of tuples of ints, of whatever lengths) -/
namespace TI
open PySem PyProof.Rows Srt SrtO
section
variable {prog : Program} {w : World} {A : Around} {E : Value → Shared → Prop} {s : Shared}
theorem lex_walk {b fin : Bool} {Q : Bool → Shared → Prop} : ∀ {xs ys : List Value} {ns ms : List Int} (i : Nat), IntsAre xs ns → IntsAre ys ms → fin = decide (ns.length < ms.length) → Q (HT.lexLt ns ms) s → PySem.W.KatLex prog w A b fin Q (xs.zip ys) i s
  | _, _, _, _, _, .nil, .nil, ef, q => by
    have e : fin = false := ef.trans (decide_eq_false (Nat.lt_irrefl _))
    rw [HT.lexLt_nil_nil, ← e] at q
    exact PySem.W.kat_nil q
  | _, _, _, _, _, .nil, .cons c u _, ef, q => by
    have e : fin = true := ef.trans (decide_eq_true (Nat.zero_lt_succ _))
    rw [HT.lexLt_nil_cons, ← e] at q
    exact PySem.W.kat_nil q
  | _, _, _, _, _, .cons c u _, .nil, ef, q => by
    have e : fin = false := ef.trans (decide_eq_false (Nat.not_lt_zero _))
    rw [HT.lexLt_cons_nil, ← e] at q
    exact PySem.W.kat_nil q
  | _, _, _, _, i, .cons c u hx, .cons d v hy, ef, q => by
    rw [HT.lexLt_cons] at q
    refine PySem.W.kat_cons (SeqAt.EqAt.int_int c u d v prog w _ _ ?_)
    refine PySem.W.kat_go (fun same => PySem.W.kat_yes ?_) (fun other => PySem.W.kat_no (TS.oneLt_ints _ ?_))
    · have e : c = d := by simpa using same
      rw [if_pos e] at q
      exact lex_walk (i + 1) hx hy (ef.trans (by rw [List.length_cons, List.length_cons]; exact decide_eq_decide.mpr Nat.succ_lt_succ_iff)) q
    · have e : ¬ c = d := by simpa using other
      rw [if_neg e] at q
      exact q
theorem size_ints {xs : Array Value} {ns : List Int} (i : IntsAre xs.toList ns) : xs.size = ns.length := by
  rw [← i.length, Array.length_toList]
/-- two tuples of ints, by what the sort knows of the keys -/
theorem lt_tuples {x : Bool} {v u : Value} {ns ms : List Int} {Q : Bool → Shared → Prop} (hv : TS.TupInts s.heap v ns) (hu : TS.TupInts s.heap u ms) (q : Q (HT.lexLt ns ms) s) : wpAny (model prog w) A (keyLt' (tuples' x) v u) Q E s := by
  obtain ⟨a, xs, rfl, ⟨o, go, _, n, dat⟩, i⟩ := hv
  obtain ⟨b, ys, rfl, ⟨o', go', _, n', dat'⟩, i'⟩ := hu
  refine PySem.W.kat_lt go dat go' dat' (lex_walk 0 i i' ?_ q)
  rw [size_ints i, size_ints i']
theorem lt_oneType {v u : Value} {ns ms : List Int} {Q : Bool → Shared → Prop} (room : A.units < cLine) (hv : TS.TupInts s.heap v ns) (hu : TS.TupInts s.heap u ms) (q : Q (HT.lexLt ns ms) s) : wpAny (model prog w) A (keyLt' oneType' v u) Q E s := by
  obtain ⟨a, xs, rfl, ⟨⟨cls, dd, data, sl⟩, go, ec, n, ed⟩, i⟩ := hv
  obtain ⟨b, ys, rfl, ⟨⟨cls', dd', data', sl'⟩, go', ec', n', ed'⟩, i'⟩ := hu
  simp only at ec ed ec' ed'
  subst ec ed ec' ed'
  rw [keyLt'_oneType, oneLt'_eq]
  simp only [if_true]
  refine wpAny_bind (wpAny_cRoomFor room ?_)
  refine wpAny_bind (wpAny_callSpecialIfBound?_slot (T := "tuple") ⟨_, go, rfl⟩ PySem.F.slot_tuple_lt ?_)
  refine call_meets PySem.F.slot_tuple_lt ⟨_, go, rfl⟩ PySem.F.entry_tuple_lt (PySem.F.args_tuple_lt_2 _ _) (HT.tuple_lt_ints a b xs ys n n' dd dd' sl sl' ns ms i i') ⟨go, go', ?_⟩
  exact wpAny_truthy_bool q
theorem lt_general {v u : Value} {ns ms : List Int} {Q : Bool → Shared → Prop} (room : A.units < cLine) (hv : TS.TupInts s.heap v ns) (hu : TS.TupInts s.heap u ms) (q : Q (HT.lexLt ns ms) s) : wpAny (model prog w) A (keyLt' general' v u) Q E s := by
  obtain ⟨a, xs, rfl, t, i⟩ := hv
  obtain ⟨b, ys, rfl, t', i'⟩ := hu
  exact PySem.W.kat_one _ _ (HT.lt_tupInts (Q := PySem.W.BoolBack Q) t t' i i' room q)
/-- what is looked at first: the tuples' own firsts -/
theorem firsts_any : ∀ {vs : List Value}, (∀ v ∈ vs, ∃ ns, TS.TupInts s.heap v ns) → ∃ rs : List (Option Value), rs.length = vs.length ∧ (∀ (i : Nat) (v : Value) (ns : List Int), vs[i]? = some v → TS.TupInts s.heap v ns → ns = [] → rs[i]? = some none) ∧
    ∀ (Q : List (Option Value) → Shared → Prop) (E : Value → Shared → Prop), Q rs s → wpAny (model prog w) A (vs.mapM firstOfTuple') Q E s
  | [], _ => ⟨[], rfl, fun i v ns h => (by simp at h), fun Q E q => by rw [List.mapM_nil]; exact wpAny_pure q⟩
  | v :: vs, h => by
    obtain ⟨rs, l, e, g⟩ := firsts_any (vs := vs) fun u m => h u (List.mem_cons_of_mem _ m)
    obtain ⟨ns, T⟩ := h v List.mem_cons_self
    obtain ⟨a, xs, rfl, ⟨o, go, ec, n, ed⟩, i⟩ := id T
    refine ⟨xs[0]? :: rs, by rw [List.length_cons, List.length_cons, l], fun k u ms hu hm em => ?_, fun Q E q => ?_⟩
    · cases k with
      | zero =>
        obtain rfl : Value.ref a = u := Option.some.inj hu
        have es : ns = ms := T.ints.symm.trans hm.ints
        subst es
        subst em
        have z := size_ints i
        show some xs[0]? = some none
        rw [Array.getElem?_eq_none (by rw [z]; exact Nat.le_refl _)]
      | succ k => exact e k u ms hu hm em
    · rw [List.mapM_cons]
      refine wpAny_bind ?_
      rw [PySem.W.kas_first_eq]
      refine wpAny_bind (PySem.W.Looks.here (show PySem.W.Looks (model prog w) s.heap (typeOf (.ref a)) o.cls from (PySem.W.Looks.ld go).andThen .now) ?_)
      rw [ec, if_neg (by first | decide | simp)]
      refine wpAny_bind (listItems_at go ed (wpAny_pure ?_))
      exact wpAny_bind (g (fun bs s' => wpAny (model prog w) A (pure (xs[0]? :: bs)) Q E s') E (wpAny_pure q))
theorem type_tuple {v : Value} {ns : List Int} {M : Model} (T : TS.TupInts s.heap v ns) : PySem.W.Looks M s.heap (typeOf v) (.type "tuple") := by
  obtain ⟨a, xs, rfl, ⟨o, go, ec, n, ed⟩, i⟩ := T
  rw [← ec]
  exact (PySem.W.Looks.ld go).andThen .now
/-- some tuple is empty: the kind is that of one type, or of any -/
theorem kind_some_empty {vs : List Value} (h2 : 2 ≤ vs.length) (h : ∀ v ∈ vs, ∃ ns, TS.TupInts s.heap v ns) {v0 : Value} (m0 : v0 ∈ vs) (t0 : TS.TupInts s.heap v0 []) : ∃ κ, (κ = oneType' ∨ κ = general') ∧
    ∀ (Q : SortKind → Shared → Prop) (E : Value → Shared → Prop), Q κ s → wpAny (model prog w) A (keyKind' vs.toArray) Q E s := by
  obtain ⟨rs, l, e, g⟩ := firsts_any (prog := prog) (w := w) (A := A) h
  obtain ⟨i, hi⟩ := List.getElem?_of_mem m0
  have none_ : ¬ (rs.toArray.all fun x => x.isSome) = true := fun all => by
    rw [List.all_toArray, List.all_eq_true] at all
    have z := all none (List.mem_of_getElem? (e i v0 [] hi t0 rfl))
    cases z
  by_cases hd : (rs.toArray[0]?.bind id).isSome = true
  · refine ⟨general', .inr rfl, fun Q E q => ?_⟩
    rw [keyKind'_eq, List.mapM_toArray, map_eq_pure_bind]
    refine wpAny_bind (wpAny_bind (g _ E (wpAny_pure ?_)))
    rw [if_neg none_, if_pos hd]
    exact wpAny_pure q
  · refine ⟨oneType', .inl rfl, fun Q E q => ?_⟩
    rw [keyKind'_eq, List.mapM_toArray, map_eq_pure_bind]
    refine wpAny_bind (wpAny_bind (g _ E (wpAny_pure ?_)))
    rw [if_neg none_, if_neg hd]
    rw [oneTypeOnly'_eq, List.mapM_toArray, map_eq_pure_bind]
    refine wpAny_bind (wpAny_bind (wpAny_bind (PySem.W.kas_mapM (r := Value.type "tuple") _ (fun v hv Q' hq => by
      obtain ⟨ns, T⟩ := h v hv
      exact (type_tuple T).here hq) (wpAny_pure ?_))))
    have all : ((List.map (fun _ => Value.type "tuple") vs).toArray.all fun x => x == Value.type "tuple") = true := by
      rw [List.all_toArray, List.all_map, List.all_eq_true]
      intro _ _
      exact beq_self_eq_true _
    have first : (List.map (fun _ => Value.type "tuple") vs).toArray[0]? = some (Value.type "tuple") := by
      cases vs with
      | nil => exact absurd h2 (by decide)
      | cons v vs => rfl
    rw [first]
    simp only [all, if_true]
    exact wpAny_pure (wpAny_pure q)
theorem firsts_full {h : Heap} : ∀ {vs : List Value}, (∀ v ∈ vs, ∃ n ns, TS.TupInts h v (n :: ns)) → ∃ fs : List Value, PySem.W.KatTups h vs fs ∧ fs.length = vs.length ∧ ∀ f ∈ fs, ∃ x t, f = Value.int x t
  | [], _ => ⟨[], .nil, rfl, nofun⟩
  | v :: vs, hv => by
    obtain ⟨fs, k, l, z⟩ := firsts_full (vs := vs) fun u m => hv u (List.mem_cons_of_mem _ m)
    obtain ⟨n, ns, a, xs, rfl, ⟨o, go, ec, c, ed⟩, i⟩ := hv v List.mem_cons_self
    generalize er : xs.toList = r at i
    cases i with
    | cons _ t i' =>
      rename_i us
      have at0 : xs[0]? = some (Value.int n t) := by rw [← Array.getElem?_toList, er] <;> rfl
      refine ⟨Value.int n t :: fs, .cons go ec ed at0 k, by rw [List.length_cons, List.length_cons, l], fun f hf => ?_⟩
      rcases List.mem_cons.mp hf with e | hf
      · exact ⟨n, t, e⟩
      · exact z f hf
theorem tuples_sortable {a : Addr} {vs : List Value} {k : Value → List Int} (room : A.units < cLine) (h2 : 2 ≤ vs.length) (hv : ∀ v ∈ vs, TS.TupInts s.heap v (k v)) (ha : ∀ o, s.heap.get? a = some o → o.cls ≠ .type "tuple") :
    SortableO prog w A s a vs fun v u => HT.lexLt (k v) (k u) := by
  intro h' keep
  have hv' : ∀ v ∈ vs, TS.TupInts h' v (k v) := fun v m => (hv v m).keeps fun b o e c => keep b o (fun z => by subst z; exact ha o e c) e
  by_cases full : ∀ v ∈ vs, k v ≠ []
  · obtain ⟨fs, t, l, z⟩ := firsts_full (h := h') (vs := vs) fun v m => by
      cases e : k v with
      | nil => exact absurd e (full v m)
      | cons n ns => exact ⟨n, ns, e ▸ hv' v m⟩
    refine ⟨tuples' true, fun Q E q => ?_, fun p r hp hr => lt_tuples (hv' _ hp) (hv' _ hr) ⟨rfl, rfl⟩⟩
    refine PySem.W.kat_kind (T := .type "int") t (by omega) (fun f hm => ?_) (by rfl) ?_
    · obtain ⟨x, u, rfl⟩ := z f hm
      exact PySem.W.Looks.now
    · rw [show (Value.type "int" != Value.type "tuple") = true from by first | decide +kernel | rfl | decide]
      exact q
  · obtain ⟨v0, m0, e0⟩ : ∃ v ∈ vs, k v = [] := by
      refine Classical.byContradiction fun no => full fun v m e => no ⟨v, m, e⟩
    obtain ⟨κ, hκ, kind⟩ := kind_some_empty (prog := prog) (w := w) (A := A) (s := { s with heap := h' }) h2 (fun v m => ⟨_, hv' v m⟩) m0 (e0 ▸ hv' v0 m0)
    refine ⟨κ, kind, fun p r hp hr => ?_⟩
    rcases hκ with rfl | rfl
    · exact lt_oneType room (hv' _ hp) (hv' _ hr) ⟨rfl, rfl⟩
    · exact lt_general room (hv' _ hp) (hv' _ hr) ⟨rfl, rfl⟩
end
end TI
namespace Xci
open PySem PySem.Spec PyProof.Rows L2
/-- sorted(xs), xs a list of tuples of ints (k says which), of whatever lengths -/
def rSortedTI (K : PySem.W.Frag) : List V → Hp → VK → Prop := fun vs H Q => ∃ (a : Addr) (xs : List V) (k : V → List Int), vs = [V.ref a] ∧ SqL K H a xs ∧ (∀ x ∈ xs, ∃ t, x = V.ref t ∧ H t = some (.tup ((k x).map V.int))) ∧
  ∀ ys p, ys.Pairwise (fun x y => HT.lexLt (k y) (k x) = false) → ys.Perm xs → H p = none → Q (.ref p) (upd H p (.lst ys))
theorem cr_sortedTI {X : Cx} (room : X.A.units + 64 < cLine) : CallR X (.builtin "sorted") (rSortedTI X.K) := by
  intro pins s σ H vs us Q I r h
  obtain ⟨a, xs, k, rfl, hs, hx, q⟩ := h
  obtain ⟨its, rv, hl, hz⟩ := I.list hs
  rw [Vals.ref1 r]
  obtain ⟨e1, e2⟩ := refs_back rv fun x m => by
    obtain ⟨t, e, _⟩ := hx x m
    exact ⟨t, e⟩
  have told : ∀ v ∈ its, TS.TupInts s.heap v (k (backV v)) := fun v hv => by
    obtain ⟨t, rfl⟩ := e2 v hv
    obtain ⟨t', e, ht⟩ := hx (V.ref t) (by rw [e1]; exact List.mem_map.mpr ⟨_, hv, rfl⟩)
    cases e
    obtain ⟨_, is, ri, at_⟩ := I.hok _ _ ht
    exact ⟨t, is.toArray, rfl, at_, Vals.ints ri⟩
  refine SrtO.sorted_ord (NtL.swo_lexL fun v => k (backV v)) hl.isList (by rw [← rv.length]; exact hz) (fun h2 h₁ a' at_ kk => ?_) fun out h1 h2 => ?_
  · refine TI.tuples_sortable (s := { s with heap := h₁ }) (by have e : X.A.in1.in1.units = X.A.units + 1 + 1 := rfl; omega) h2 (fun v hv => (told v hv).keeps fun b o e _ => (kk b o e).2) fun o e => ?_
    have e' : some o = some (seqObj "list" its.toArray 0) := e.symm.trans at_
    cases e'
    exact fun c => absurd (Value.type.inj c) (by decide)
  · have refs : ∀ u ∈ out, ∃ a, u = Value.ref a := fun u hu => e2 u (h2.perm.mem_iff.mp hu)
    obtain ⟨n, hn⟩ := sortedAll_at s.heap its out.toArray
    have perm : (out.map backV).Perm xs := by rw [e1]; exact h2.perm.map backV
    refine ⟨.ref _, upd H (s.heap.objs.size + 1) (.lst (out.map backV)), I.laid (t' := s.toks) (fun _ _ => sortedAll_old) (Nat.le_succ _) ⟨by rw [perm.length_eq]; exact hz, out, n, vals_back refs, hn⟩, rfl, q _ _ (List.pairwise_map.mpr h1) perm (I.hok.fresh (Nat.le_succ _))⟩
end Xci

namespace Xci
open PySem L2
/-! ### holding: quarrels are of two at least; a book with an entry of just these marks ahead -/
theorem inside_mem {ms ns : List Int} (h : inside ms ns = true) : ∀ m ∈ ms, m ∈ ns := fun m hm => of_decide_eq_true (List.all_eq_true.mp h m hm)
theorem inside_of {ms ns : List Int} (h : ∀ m ∈ ms, m ∈ ns) : inside ms ns = true := List.all_eq_true.mpr fun m hm => decide_eq_true (h m hm)
theorem within_eq (ws : List Int) (ms ns : List Int) : beatM "within" ws ms ns = (inside ns ms && decide (ns.length < ms.length)) := if_pos rfl
theorem within_trans {ws : List Int} {es : List Ent} {a b c : Nat} (h1 : beatA "within" ws es a b = true) (h2 : beatA "within" ws es b c = true) : beatA "within" ws es a c = true := by
  unfold beatA at h1 h2 ⊢
  rw [within_eq, Bool.and_eq_true, decide_eq_true_iff] at h1 h2 ⊢
  exact ⟨inside_of fun m hm => inside_mem h1.1 m (inside_mem h2.1 m hm), by omega⟩
theorem within_len {ws : List Int} {es : List Ent} {a b : Nat} (h : beatA "within" ws es a b = true) : (mkA es b).length < (mkA es a).length := by
  unfold beatA at h
  rw [within_eq, Bool.and_eq_true, decide_eq_true_iff] at h
  exact h.2
theorem some_max {ws : List Int} {es : List Ent} {js : List Nat} (hb : ∀ j ∈ js, (mkA es j).length ≤ 6) : ∀ (n j : Nat), j ∈ js → 6 - (mkA es j).length ≤ n → ∃ m ∈ js.filter (maxB js (beatA "within" ws es)), m = j ∨ beatA "within" ws es m j = true := by
  intro n
  induction n with
  | zero =>
    intro j hj hn
    refine ⟨j, List.mem_filter.mpr ⟨hj, ?_⟩, .inl rfl⟩
    unfold maxB
    rw [Bool.not_eq_true', List.any_eq_false]
    intro o ho q
    have := within_len q
    have := hb o ho
    omega
  | succ n ih =>
    intro j hj hn
    by_cases q : maxB js (beatA "within" ws es) j = true
    · exact ⟨j, List.mem_filter.mpr ⟨hj, q⟩, .inl rfl⟩
    · unfold maxB at q
      rw [Bool.not_eq_true', List.any_eq_false] at q
      have : ∃ o ∈ js, beatA "within" ws es o j = true := by
        by_cases e : ∃ o ∈ js, beatA "within" ws es o j = true
        · exact e
        · exact absurd (fun o ho z => e ⟨o, ho, z⟩) q
      obtain ⟨o, ho, z⟩ := this
      have hl := within_len z
      obtain ⟨m, hm, hmo⟩ := ih o ho (by omega)
      refine ⟨m, hm, .inr ?_⟩
      rcases hmo with e | e
      · rw [e]; exact z
      · exact within_trans e z
theorem qua_two {ws : List Int} {es : List Ent} {js : List Nat} (hn : js.Nodup) (hb : ∀ j ∈ js, (mkA es j).length ≤ 6) {l : List Nat} (e : lawRes js (beatA "within" ws es) = .qua l) : 2 ≤ l.length := by
  rcases lawRes_cases (beatA_ok "within" ws es) hn with ⟨_, r⟩ | ⟨n, _, r⟩ | ⟨hne, hw, r⟩
  · rw [r] at e; cases e
  · rw [r] at e; cases e
  · rw [r] at e
    obtain rfl := Res.qua.inj e
    obtain ⟨j, hj⟩ : ∃ j, j ∈ js := by
      cases js with
      | nil => exact absurd rfl hne
      | cons j r => exact ⟨j, by simp⟩
    have sm := fun o ho => some_max (ws := ws) hb 6 o ho (by omega)
    match hl : js.filter (maxB js (beatA "within" ws es)) with
    | [] =>
      obtain ⟨m, hm, _⟩ := sm j hj
      rw [hl] at hm
      cases hm
    | [m] =>
      refine absurd ⟨?_, fun o ho hne => ?_⟩ (hw m)
      · have : m ∈ js.filter (maxB js (beatA "within" ws es)) := by rw [hl]; simp
        exact (List.mem_filter.mp this).1
      · obtain ⟨k, hk, z⟩ := sm o ho
        rw [hl] at hk
        have : k = m := List.mem_singleton.mp hk
        subst this
        rcases z with z | z
        · exact absurd z.symm hne
        · exact z
    | x :: y :: r => simp
theorem asc_sub_len : ∀ {b a : List Int}, b.Pairwise (· < ·) → a.Pairwise (· < ·) → (∀ x ∈ a, x ∈ b) → a.length ≤ b.length
  | [], [], _, _, _ => Nat.le_refl _
  | [], x :: r, _, _, h => absurd (h x (by simp)) (by simp)
  | y :: t, [], _, _, _ => Nat.zero_le _
  | y :: t, x :: r, hb, ha, h => by
    obtain ⟨b1, b2⟩ := List.pairwise_cons.mp hb
    obtain ⟨a1, a2⟩ := List.pairwise_cons.mp ha
    by_cases e : x = y
    · subst e
      have := asc_sub_len (b := t) (a := r) b2 a2 fun k hk => by
        rcases List.mem_cons.mp (h k (List.mem_cons_of_mem _ hk)) with q | q
        · have := a1 k hk; omega
        · exact q
      simp only [List.length_cons]
      omega
    · have hx : x ∈ t := by
        rcases List.mem_cons.mp (h x (by simp)) with q | q
        · exact absurd q e
        · exact q
      have := b1 x hx
      have := asc_sub_len (b := t) (a := x :: r) b2 ha fun k hk => by
        rcases List.mem_cons.mp (h k hk) with q | q
        · rcases List.mem_cons.mp hk with q2 | q2
          · omega
          · have := a1 k q2; omega
        · exact q
      simp only [List.length_cons] at this ⊢
      omega
theorem asc_sub_eq : ∀ {b a : List Int}, b.Pairwise (· < ·) → a.Pairwise (· < ·) → (∀ x ∈ a, x ∈ b) → a.length = b.length → a = b
  | [], [], _, _, _, _ => rfl
  | [], x :: r, _, _, h, _ => absurd (h x (by simp)) (by simp)
  | y :: t, [], _, _, _, e => by simp at e
  | y :: t, x :: r, hb, ha, h, el => by
    obtain ⟨b1, b2⟩ := List.pairwise_cons.mp hb
    obtain ⟨a1, a2⟩ := List.pairwise_cons.mp ha
    by_cases e : x = y
    · subst e
      rw [asc_sub_eq (b := t) (a := r) b2 a2 (fun k hk => by
        rcases List.mem_cons.mp (h k (List.mem_cons_of_mem _ hk)) with q | q
        · have := a1 k hk; omega
        · exact q) (by simpa using el)]
    · have hx : x ∈ t := by
        rcases List.mem_cons.mp (h x (by simp)) with q | q
        · exact absurd q e
        · exact q
      have := b1 x hx
      have := asc_sub_len (b := t) (a := x :: r) b2 ha fun k hk => by
        rcases List.mem_cons.mp (h k hk) with q | q
        · rcases List.mem_cons.mp hk with q2 | q2
          · omega
          · have := a1 k q2; omega
        · exact q
      simp only [List.length_cons] at this el
      omega
theorem inside_len {ms ns : List Int} (h : inside ms ns = true) (hm : MarksOk 6 ms) (hn : MarksOk 6 ns) : ms.length ≤ ns.length := asc_sub_len hn.up hm.up (inside_mem h)
theorem inside_eq {ms ns : List Int} (h : inside ms ns = true) (hm : MarksOk 6 ms) (hn : MarksOk 6 ns) (e : ms.length = ns.length) : ms = ns := asc_sub_eq hn.up hm.up (inside_mem h) e
theorem inside_refl (ms : List Int) : inside ms ms = true := inside_of fun _ h => h
/-- the entries with just these marks -/
def sameN (es : List Ent) (ms : List Int) : List Nat := (List.range es.length).filter fun n => decide (mkA es n = ms)
theorem mkA_cons (e : Ent) (es : List Ent) (n : Nat) : mkA (e :: es) (n + 1) = mkA es n := rfl
theorem mkA_zero (e : Ent) (es : List Ent) : mkA (e :: es) 0 = e.1 := rfl
theorem fit_mk {es : List Ent} {ms : List Int} {n : Nat} (h : n ∈ fitN es ms) : inside (mkA es n) ms = true := by
  obtain ⟨a, b⟩ := List.mem_filter.mp h
  have hn := List.mem_range.mp a
  unfold fitP at b
  unfold mkA
  rw [List.getElem?_eq_getElem hn] at b ⊢
  exact b
theorem whole_res {es : List Ent} {ms : List Int} {z : Str} (eok : ∀ e ∈ es, EntOk e) (mok : MarksOk 6 ms) :
    lawRes (fitN ((ms, z) :: es) ms) (beatA "within" [] ((ms, z) :: es)) = if sameN es ms = [] then .ent 0 else .qua (0 :: (sameN es ms).map (· + 1)) := by
  have ef : fitN ((ms, z) :: es) ms = 0 :: (fitN es ms).map (· + 1) := by
    rw [fit_cons, if_pos (inside_refl ms)]
    rfl
  have nd := fit_nd ((ms, z) :: es) ms
  have b0 : ∀ n ∈ fitN es ms, beatA "within" [] ((ms, z) :: es) 0 (n + 1) = !decide (mkA es n = ms) := fun n hn => by
    unfold beatA
    rw [within_eq, mkA_cons, mkA_zero, fit_mk hn, Bool.true_and]
    have l := inside_len (fit_mk hn) (mkA_ok eok n) mok
    by_cases e : mkA es n = ms
    · rw [e]
      simp
    · have : ¬ (mkA es n).length = ms.length := fun q => e (inside_eq (fit_mk hn) (mkA_ok eok n) mok q)
      have : (mkA es n).length < ms.length := by omega
      simp [e, this]
  have bn : ∀ n ∈ fitN es ms, ∀ k, (mkA ((ms, z) :: es) k).length = ms.length → beatA "within" [] ((ms, z) :: es) (n + 1) k = false := fun n hn k hk => by
    unfold beatA
    rw [within_eq, mkA_cons]
    have l := inside_len (fit_mk hn) (mkA_ok eok n) mok
    have : decide ((mkA ((ms, z) :: es) k).length < (mkA es n).length) = false := decide_eq_false (by omega)
    rw [this, Bool.and_false]
  have esame : sameN es ms = (fitN es ms).filter fun n => decide (mkA es n = ms) := by
    unfold sameN fitN
    rw [List.filter_filter]
    refine List.filter_congr fun n hn => ?_
    by_cases e : mkA es n = ms
    · have hl := List.mem_range.mp hn
      have : fitP es ms n = true := by
        unfold fitP
        unfold mkA at e
        rw [List.getElem?_eq_getElem hl] at e ⊢
        have e : es[n].1 = ms := e
        show inside es[n].1 ms = true
        rw [e]
        exact inside_refl ms
      simp [e, this]
    · simp [e]
  by_cases hs : sameN es ms = []
  · rw [if_pos hs]
    refine lawRes_ent (beatA_ok _ _ _) nd ⟨by rw [ef]; simp, fun o ho hne => ?_⟩
    rw [ef] at ho
    rcases List.mem_cons.mp ho with q | q
    · exact absurd q hne
    · obtain ⟨n, hn, rfl⟩ := List.mem_map.mp q
      rw [b0 n hn]
      have : ¬ mkA es n = ms := fun e => by
        have : n ∈ sameN es ms := by
          rw [esame]
          exact List.mem_filter.mpr ⟨hn, decide_eq_true e⟩
        rw [hs] at this
        cases this
      simp [this]
  · rw [if_neg hs]
    have self : ∀ k, (mkA ((ms, z) :: es) k).length = ms.length → beatA "within" [] ((ms, z) :: es) 0 k = false := fun k hk => by
      unfold beatA
      rw [within_eq, mkA_zero]
      have : decide ((mkA ((ms, z) :: es) k).length < ms.length) = false := decide_eq_false (by omega)
      rw [this, Bool.and_false]
    obtain ⟨s, hs1⟩ : ∃ s, s ∈ sameN es ms := by
      cases h : sameN es ms with
      | nil => exact absurd h hs
      | cons a b => exact ⟨a, by simp⟩
    have hs2 := hs1
    rw [esame] at hs2
    obtain ⟨s1, s2⟩ := List.mem_filter.mp hs2
    have s2 := of_decide_eq_true s2
    rw [lawRes_qua (beatA_ok _ _ _) nd (by rw [ef]; simp) fun n hw => ?_]
    · congr 1
      rw [ef, List.filter_cons]
      have m0 : maxB (0 :: (fitN es ms).map (· + 1)) (beatA "within" [] ((ms, z) :: es)) 0 = true := by
        unfold maxB
        rw [Bool.not_eq_true', List.any_eq_false]
        intro o ho
        rcases List.mem_cons.mp ho with q | q
        · subst q
          rw [self 0 rfl]
          exact Bool.false_ne_true
        · obtain ⟨n, hn, rfl⟩ := List.mem_map.mp q
          rw [bn n hn 0 rfl]
          exact Bool.false_ne_true
      rw [if_pos m0]
      congr 1
      rw [List.filter_map, esame]
      congr 1
      refine List.filter_congr fun n hn => ?_
      show maxB _ _ (n + 1) = _
      unfold maxB
      by_cases e : mkA es n = ms
      · rw [decide_eq_true e, Bool.not_eq_true', List.any_eq_false]
        intro o ho
        have hk : (mkA ((ms, z) :: es) (n + 1)).length = ms.length := by rw [mkA_cons, e]
        rcases List.mem_cons.mp ho with q | q
        · subst q
          rw [self _ hk]
          exact Bool.false_ne_true
        · obtain ⟨k, hk2, rfl⟩ := List.mem_map.mp q
          rw [bn k hk2 _ hk]
          exact Bool.false_ne_true
      · rw [decide_eq_false e, Bool.not_eq_false', List.any_eq_true]
        exact ⟨0, by simp, by rw [b0 n hn]; simp [e]⟩
    · have hn0 := hw.1
      rw [ef] at hn0
      rcases List.mem_cons.mp hn0 with q | q
      · subst q
        have := hw.2 (s + 1) (by rw [ef]; exact List.mem_cons_of_mem _ (List.mem_map_of_mem s1)) (by omega)
        rw [self _ (by rw [mkA_cons, s2])] at this
        cases this
      · obtain ⟨k, hk, rfl⟩ := List.mem_map.mp q
        have := hw.2 0 (by rw [ef]; simp) (by omega)
        rw [bn k hk 0 rfl] at this
        cases this
theorem eqvAll_ints : ∀ (a b : List Int), PyData.eqvAll (a.map PyData.int) (b.map PyData.int) = decide (a = b)
  | [], [] => rfl
  | [], y :: t => by simp [PyData.eqvAll]
  | x :: r, [] => by simp [PyData.eqvAll]
  | x :: r, y :: t => by
    have ih := eqvAll_ints r t
    rw [List.map_cons, List.map_cons]
    simp only [PyData.eqvAll, PyData.eqv]
    rw [ih, Bool.eq_iff_iff]
    simp
theorem dp_marks {K : PySem.W.Frag} {H : Hp} {v : V} {ms : List Int} (h : Xci.Mk H v ms) : Dp K H v (.tuple (ms.map PyData.int)) := by
  have q := dp_tup (K := K) h (flat0_ints ms)
  rw [toD_ints] at q
  exact q
theorem sh_marks (ns : List Int) : SeqAt.shaped (.tuple (ns.map PyData.int)) = true := by
  obtain ⟨a, b⟩ := lay_ints ns
  simp [SeqAt.shaped, PyData.canLay0, PyData.depth, a, b]
end Xci

namespace Xci
open PySem L2
/-! ### sorted tuples of ints; the cells of one form -/
def leC (c d : List Int) : Prop := HT.lexLt d c = false
theorem lex_eq : ∀ xs ys : List Int, HT.lexLt xs ys = false → HT.lexLt ys xs = false → xs = ys
  | [], [], _, _ => rfl
  | [], y :: ys, h, _ => by rw [HT.lexLt_nil_cons] at h; cases h
  | x :: xs, [], _, h => by rw [HT.lexLt_nil_cons] at h; cases h
  | x :: xs, y :: ys, h, k => by
    rw [HT.lexLt_cons] at h k
    by_cases e : x = y
    · subst e
      rw [if_pos rfl] at h k
      rw [lex_eq xs ys h k]
    · rw [if_neg e] at h
      rw [if_neg (fun q => e q.symm)] at k
      have a := of_decide_eq_false h
      have b := of_decide_eq_false k
      omega
theorem sortedU {cs ds : List (List Int)} (h : cs.Pairwise leC) (k : ds.Pairwise leC) (p : cs.Perm ds) : cs = ds :=
  List.Perm.eq_of_pairwise (le := leC) (fun a b _ _ x y => lex_eq a b y x) h k p
def unInt : V → Int
  | .int i => i
  | _ => 0
theorem unInts (ns : List Int) : (ns.map V.int).map unInt = ns := by
  rw [List.map_map]
  exact (List.map_congr_left fun _ _ => rfl).trans (List.map_id ns)
/-- the ints of the tuple at x -/
def kOf (H : Hp) : V → List Int
  | .ref t => match H t with
    | some (.tup vs) => vs.map unInt
    | _ => []
  | _ => []
theorem kOf_mk {H : Hp} {x : V} {c : List Int} (m : Xci.Mk H x c) : kOf H x = c := by
  obtain ⟨t, rfl, h⟩ := m
  show (match H t with
    | some (.tup vs) => vs.map unInt
    | _ => []) = c
  rw [h]
  exact unInts c
theorem mks_kOf {H : Hp} : ∀ {xs : List V} {cs : List (List Int)}, Mks H xs cs → xs.map (kOf H) = cs
  | _, _, .nil => rfl
  | _, _, .cons m r => by rw [List.map_cons, kOf_mk m, mks_kOf r]
/-- sorted(xs) of tuples with the contents cs -/
theorem sorted_rows {K : PySem.W.Frag} {H : Hp} {Q : VK} {a : Addr} {xs : List V} {cs : List (List Int)} (hs : SqL K H a xs) (m : Mks H xs cs)
    (G : ∀ (ys : List V) (ds : List (List Int)) (p : Addr), Mks H ys ds → ds.Pairwise leC → ds.Perm cs → H p = none → Q (.ref p) (upd H p (.lst ys))) : rSortedTI K [.ref a] H Q := by
  refine ⟨a, xs, kOf H, rfl, hs, fun x hx => ?_, fun ys p up perm free => ?_⟩
  · obtain ⟨i, hi⟩ := List.getElem?_of_mem hx
    obtain ⟨c, _, t, e, h⟩ := Paired.get m hi
    refine ⟨t, e, ?_⟩
    rw [kOf_mk ⟨t, e, h⟩]
    exact h
  · obtain ⟨ds, md, pd⟩ := Paired.perm perm m
    refine G ys ds p md ?_ pd free
    rw [← mks_kOf md, List.pairwise_map]
    exact up
theorem lay_rows : ∀ (cs : List (List Int)), PyData.canLayAll0 (cs.map fun c => PyData.tuple (c.map PyData.int)) = true ∧ PyData.depthAll (cs.map fun c => PyData.tuple (c.map PyData.int)) ≤ 1
  | [] => ⟨rfl, Nat.zero_le _⟩
  | c :: cs => by
    obtain ⟨a, b⟩ := lay_rows cs
    obtain ⟨d, e⟩ := lay_ints c
    rw [List.map_cons]
    refine ⟨by simp [PyData.canLayAll0, PyData.canLay0, a, d], ?_⟩
    rw [PyData.depthAll]
    refine Nat.max_le.mpr ⟨?_, b⟩
    simp [PyData.depth, e]
theorem sh_rows (cs : List (List Int)) : SeqAt.shaped (.list (cs.map fun c => PyData.tuple (c.map PyData.int))) = true := by
  obtain ⟨a, b⟩ := lay_rows cs
  have d : PyData.depth (.list (cs.map fun c => PyData.tuple (c.map PyData.int))) ≤ 64 := by
    simp only [PyData.depth]
    omega
  unfold SeqAt.shaped
  rw [decide_eq_true d, Bool.and_true]
  simpa [PyData.canLay0] using a
theorem dp_rows {K : PySem.W.Frag} {H : Hp} : ∀ {ys : List V} {cs : List (List Int)}, Mks H ys cs → DpAll K H ys (cs.map fun c => PyData.tuple (c.map PyData.int))
  | _, _, .nil => .nil
  | _, _, .cons m r => .cons (dp_marks m) (dp_rows r)
/-- u != v of two lists of the same tuples of ints: no -/
theorem ne_rows {K : PySem.W.Frag} {H : Hp} {a b : Addr} {xs ys : List V} {cs : List (List Int)} {Q : V → Hp → Prop} (ha : H a = some (.lst xs)) (hb : H b = some (.lst ys)) (ma : Mks H xs cs) (mb : Mks H ys cs) (q : Q (.bl false) H) : rNeD K (.ref a) (.ref b) H Q := by
  refine ⟨_, _, .lst (SqL.of ha) (dp_rows ma), .lst (SqL.of hb) (dp_rows mb), sh_rows cs, sh_rows cs, ?_⟩
  rw [eqv_same (sh_rows cs)]
  exact q
/-- the cells of each form, told in order -/
structure Sm (fs : List (Option Str)) (cs : List (List Int)) : Prop where
  up : cs.Pairwise leC
  of : ∃ zs : List Str, zs.Nodup ∧ (∀ z, z ∈ zs ↔ some z ∈ fs) ∧ cs.Perm (zs.map fun z => nat2 (spots fs z))
theorem Sm.one {fs : List (Option Str)} {cs ds : List (List Int)} (h : Sm fs cs) (k : Sm fs ds) : cs = ds := by
  obtain ⟨zs, n, a, p⟩ := h.of
  obtain ⟨ys, m, b, q⟩ := k.of
  have e : zs.Perm ys := (List.perm_ext_iff_of_nodup n m).mpr fun z => (a z).trans (b z).symm
  exact sortedU h.up k.up (p.trans ((e.map _).trans q.symm))
theorem Sm.few {fs : List (Option Str)} {cs : List (List Int)} (h : Sm fs cs) : cs.length ≤ fs.length := by
  obtain ⟨zs, n, a, p⟩ := h.of
  rw [p.length_eq, List.length_map]
  have q : (zs.map some).length ≤ fs.length := List.Nodup.length_le_of_subset (by
    unfold List.Nodup
    rw [List.pairwise_map]
    exact n.imp fun h e => h (Option.some.inj e)) fun x hx => by
      obtain ⟨z, hz, rfl⟩ := List.mem_map.mp hx
      exact (a z).mp hz
  rwa [List.length_map] at q
theorem Sm.each {fs : List (Option Str)} {cs : List (List Int)} (h : Sm fs cs) {c : List Int} (m : c ∈ cs) : ∃ z, some z ∈ fs ∧ c = nat2 (spots fs z) := by
  obtain ⟨zs, n, a, p⟩ := h.of
  obtain ⟨z, hz, e⟩ := List.mem_map.mp (p.subset m)
  exact ⟨z, (a z).mp hz, e.symm⟩
/-- under other names -/
theorem Sm.ren {fs : List (Option Str)} {cs : List (List Int)} (h : Sm fs cs) (ren : Str → Str) (inj : ∀ x y, some x ∈ fs → some y ∈ fs → ren x = ren y → x = y) : Sm (fs.map (Option.map ren)) cs := by
  obtain ⟨zs, n, a, p⟩ := h.of
  have sp : ∀ z, some z ∈ fs → spots (fs.map (Option.map ren)) (ren z) = spots fs z := fun z hz => by
    unfold spots
    rw [List.length_map]
    refine List.filter_congr fun i hi => ?_
    rw [decide_eq_decide, List.getElem?_map]
    cases e : fs[i]? with
    | none => simp
    | some f =>
      cases f with
      | none => simp
      | some y =>
        have my : some y ∈ fs := List.mem_of_getElem? e
        constructor
        · intro q
          have q' : ren y = ren z := Option.some.inj (Option.some.inj q)
          rw [inj y z my hz q']
        · intro q
          have q' : y = z := Option.some.inj (Option.some.inj q)
          rw [q'] <;> rfl
  refine ⟨h.up, zs.map ren, ?_, fun z => ?_, ?_⟩
  · unfold List.Nodup
    rw [List.pairwise_map]
    refine List.Pairwise.imp_of_mem (fun {x y} hx hy ne e => ne (inj x y ((a x).mp hx) ((a y).mp hy) e)) n
  · rw [List.mem_map, List.mem_map]
    constructor
    · rintro ⟨y, hy, rfl⟩
      exact ⟨some y, (a y).mp hy, rfl⟩
    · rintro ⟨f, hf, e⟩
      cases f with
      | none => cases e
      | some y => exact ⟨y, (a y).mpr hf, Option.some.inj e⟩
  · rw [List.map_map]
    refine p.trans (List.Perm.of_eq (List.map_congr_left fun z hz => ?_))
    show _ = nat2 (spots (fs.map (Option.map ren)) (ren z))
    rw [sp z ((a z).mp hz)]
/-- one form in the place of another -/
def joinF (z1 z2 : Str) (fs : List (Option Str)) : List (Option Str) := fs.map fun f => if f = some z2 then some z1 else f
/-- the cells that have the one or the other form -/
def bothN (z1 z2 : Str) (fs : List (Option Str)) (i : Nat) : List Nat := (List.range i).filter fun j => decide (fs[j]? = some (some z1) ∨ fs[j]? = some (some z2))
theorem both_next {fs : List (Option Str)} {z1 z2 : Str} {i : Nat} {f : Option Str} (e : fs[i]? = some f) : bothN z1 z2 fs (i + 1) = bothN z1 z2 fs i ++ (if f = some z1 ∨ f = some z2 then [i] else []) := by
  unfold bothN
  rw [List.range_succ, List.filter_append, List.filter_cons, List.filter_nil, e]
  have q : (some f = some (some z1) ∨ some f = some (some z2)) ↔ (f = some z1 ∨ f = some z2) := ⟨fun h => h.imp Option.some.inj Option.some.inj, fun h => h.imp (congrArg some) (congrArg some)⟩
  by_cases c : f = some z1 ∨ f = some z2
  · rw [if_pos c, if_pos (decide_eq_true (q.mpr c))]
  · rw [if_neg c, if_neg (fun h => c (q.mp (of_decide_eq_true h)))]
theorem both_len (z1 z2 : Str) (fs : List (Option Str)) (i : Nat) : (bothN z1 z2 fs i).length ≤ i := by
  have h := List.length_filter_le (fun j => decide (fs[j]? = some (some z1) ∨ fs[j]? = some (some z2))) (List.range i)
  rwa [List.length_range] at h
theorem join_both (z1 z2 : Str) (fs : List (Option Str)) : spots (joinF z1 z2 fs) z1 = bothN z1 z2 fs fs.length := by
  unfold spots bothN joinF
  rw [List.length_map]
  refine List.filter_congr fun i hi => ?_
  rw [decide_eq_decide, List.getElem?_map]
  cases e : fs[i]? with
  | none => simp
  | some f =>
    show some (if f = some z2 then some z1 else f) = some (some z1) ↔ _
    by_cases c : f = some z2
    · rw [if_pos c, c]
      simp
    · rw [if_neg c]
      constructor
      · exact .inl
      · rintro (h | h)
        · exact h
        · exact absurd (Option.some.inj h) c
theorem join_else {z1 z2 z : Str} (fs : List (Option Str)) (h1 : z ≠ z1) (h2 : z ≠ z2) : spots (joinF z1 z2 fs) z = spots fs z := by
  unfold spots joinF
  rw [List.length_map]
  refine List.filter_congr fun i hi => ?_
  rw [decide_eq_decide, List.getElem?_map]
  cases e : fs[i]? with
  | none => simp
  | some f =>
    show some (if f = some z2 then some z1 else f) = some (some z) ↔ _
    by_cases c : f = some z2
    · rw [if_pos c, c]
      constructor
      · intro q
        exact absurd (Option.some.inj (Option.some.inj q)).symm h1
      · intro q
        exact absurd (Option.some.inj (Option.some.inj q)).symm h2
    · rw [if_neg c]
theorem mem_join {z1 z2 z : Str} {fs : List (Option Str)} (m2 : some z2 ∈ fs) : some z ∈ joinF z1 z2 fs ↔ z = z1 ∨ (z ≠ z2 ∧ some z ∈ fs) := by
  unfold joinF
  rw [List.mem_map]
  constructor
  · rintro ⟨f, hf, e⟩
    by_cases c : f = some z2
    · rw [if_pos c] at e
      exact .inl (Option.some.inj e).symm
    · rw [if_neg c] at e
      exact .inr ⟨fun q => c (e.trans (congrArg some q)), e ▸ hf⟩
  · rintro (h | ⟨h, m⟩)
    · exact ⟨some z2, m2, by rw [if_pos rfl, h]⟩
    · exact ⟨some z, m, if_neg fun q => h (Option.some.inj q)⟩
/-- does the tuple begin outside of both? -/
def apart (b : List Nat) (c : List Int) : Bool := !decide (c.headD 0 ∈ nat2 b)
theorem mem_nat2 {j : Nat} {js : List Nat} : (j : Int) ∈ nat2 js ↔ j ∈ js := by
  unfold nat2
  rw [List.mem_map]
  constructor
  · rintro ⟨k, hk, e⟩
    have : k = j := by omega
    exact this ▸ hk
  · exact fun h => ⟨j, h, rfl⟩
theorem mem_both {z1 z2 : Str} {fs : List (Option Str)} {j : Nat} : j ∈ bothN z1 z2 fs fs.length ↔ fs[j]? = some (some z1) ∨ fs[j]? = some (some z2) := by
  unfold bothN
  rw [List.mem_filter, List.mem_range, decide_eq_true_eq]
  exact ⟨fun h => h.2, fun h => ⟨h.elim (fun q => (List.getElem?_eq_some_iff.mp q).1) (fun q => (List.getElem?_eq_some_iff.mp q).1), h⟩⟩
theorem apart_spots {z1 z2 z : Str} {fs : List (Option Str)} (m : some z ∈ fs) : apart (bothN z1 z2 fs fs.length) (nat2 (spots fs z)) = decide (z ≠ z1 ∧ z ≠ z2) := by
  obtain ⟨j, js, e⟩ : ∃ j js, spots fs z = j :: js := by
    cases e : spots fs z with
    | nil => exact absurd e (spots_ne m)
    | cons j js => exact ⟨j, js, rfl⟩
  have at_ : fs[j]? = some (some z) := spots_at.mp (by rw [e]; exact List.mem_cons_self)
  unfold apart
  rw [e]
  show (!decide ((j : Int) ∈ nat2 (bothN z1 z2 fs fs.length))) = _
  rw [Bool.eq_iff_iff, Bool.not_eq_true', decide_eq_false_iff_not, decide_eq_true_eq, mem_nat2, mem_both, at_]
  constructor
  · intro h
    exact ⟨fun q => h (.inl (by rw [q])), fun q => h (.inr (by rw [q]))⟩
  · rintro ⟨h1, h2⟩ (q | q)
    · exact h1 (Option.some.inj (Option.some.inj q))
    · exact h2 (Option.some.inj (Option.some.inj q))
/-- the tuples that begin elsewhere, and both: these are told of the joined one -/
theorem Sm.join {fs : List (Option Str)} {cs ds : List (List Int)} {z1 z2 : Str} (h : Sm fs cs) (m1 : some z1 ∈ fs) (m2 : some z2 ∈ fs) (ne : z1 ≠ z2) (up : ds.Pairwise leC)
    (p : ds.Perm (cs.filter (apart (bothN z1 z2 fs fs.length)) ++ [nat2 (bothN z1 z2 fs fs.length)])) : Sm (joinF z1 z2 fs) ds := by
  obtain ⟨zs, n, a, q⟩ := h.of
  have mid : (zs.filter fun z => decide (z ≠ z2)).Perm ((zs.filter fun z => decide (z ≠ z1 ∧ z ≠ z2)) ++ [z1]) := by
    refine (List.perm_ext_iff_of_nodup (n.sublist List.filter_sublist) (List.nodup_append.mpr ⟨n.sublist List.filter_sublist, by simp, fun x hx y hy e => ?_⟩)).mpr fun z => ?_
    · rw [List.mem_singleton.mp hy] at e
      have := of_decide_eq_true (List.mem_filter.mp hx).2
      exact this.1 e
    · rw [List.mem_append, List.mem_filter, List.mem_filter, List.mem_singleton, decide_eq_true_eq, decide_eq_true_eq]
      constructor
      · rintro ⟨x, y⟩
        by_cases e : z = z1
        · exact .inr e
        · exact .inl ⟨x, e, y⟩
      · rintro (⟨x, _, y⟩ | e)
        · exact ⟨x, y⟩
        · rw [e]
          exact ⟨(a z1).mpr m1, ne⟩
  refine ⟨up, zs.filter fun z => decide (z ≠ z2), n.sublist List.filter_sublist, fun z => ?_, ?_⟩
  · rw [mem_join m2, List.mem_filter, decide_eq_true_eq, a z]
    constructor
    · rintro ⟨x, y⟩
      exact .inr ⟨y, x⟩
    · rintro (e | ⟨x, y⟩)
      · rw [e]
        exact ⟨m1, ne⟩
      · exact ⟨y, x⟩
  · refine p.trans (List.Perm.trans ?_ (mid.map _).symm)
    rw [List.map_append]
    refine List.Perm.append ?_ (List.Perm.of_eq (by rw [List.map_cons, List.map_nil, join_both]))
    refine (q.filter _).trans (List.Perm.of_eq ?_)
    rw [List.filter_map]
    have e1 : zs.filter (apart (bothN z1 z2 fs fs.length) ∘ fun z => nat2 (spots fs z)) = zs.filter fun z => decide (z ≠ z1 ∧ z ≠ z2) := List.filter_congr fun z hz => apart_spots ((a z).mp hz)
    rw [e1]
    refine List.map_congr_left fun z hz => ?_
    have := of_decide_eq_true (List.mem_filter.mp hz).2
    rw [join_else fs this.1 this.2]
theorem join_len (z1 z2 : Str) (fs : List (Option Str)) : (joinF z1 z2 fs).length = fs.length := List.length_map ..
/-- a joined table's forms are forms of a table -/
theorem FormsOk.join {n : Nat} {fs : List (Option Str)} {z1 z2 : Str} (ok : FormsOk n fs) (m1 : some z1 ∈ fs) (m2 : some z2 ∈ fs) (rise : ∃ zs, Rising fs zs) : FormsOk n (joinF z1 z2 fs) := by
  obtain ⟨zs, r⟩ := rise
  refine ⟨by rw [join_len]; exact ok.len, ok.few, fun z hz => ?_, fun us ru => ?_⟩
  · rcases (mem_join m2).mp hz with e | ⟨_, m⟩
    · rw [e]; exact ok.word z1 m1
    · exact ok.word z m
  · have sub : us.length ≤ zs.length := List.Nodup.length_le_of_subset ru.nd fun z hz => (r.all z).mpr (by
      rcases (mem_join m2).mp ((ru.all z).mp hz) with e | ⟨_, m⟩
      · rw [e]; exact m1
      · exact m)
    have := ok.unlike zs r
    omega
end Xci

namespace Xci
open PySem L2
/-! ### a third source of draws: its own list is used up -/
/-- all but what stands at a and l is kept -/
def Fr2 (a l : Addr) (H H' : Hp) : Prop := ∀ b o, H b = some o → b ≠ a → b ≠ l → H' b = some o
theorem Fr2.refl (a l : Addr) (H : Hp) : Fr2 a l H H := fun _ _ h _ _ => h
theorem Fr2.trans {a l : Addr} {H H1 H2 : Hp} (f : Fr2 a l H H1) (g : Fr2 a l H1 H2) : Fr2 a l H H2 := fun b o h n m => g b o (f b o h n m) n m
theorem Fr2.same {a l : Addr} {H H' : Hp} (f : Same H H') : Fr2 a l H H' := fun b o h _ _ => f b o h
theorem Fr2.new {a l p : Addr} {H : Hp} {o : HO} (h : H p = Option.none) : Fr2 a l H (upd H p o) := fun b u e _ _ => by rw [upd_ne (ne_of_none e h)]; exact e
def Src (H : Hp) (a l : Addr) : Prop := ∃ (ns : List Int) (c s n : Int), H a = some (.lst [.ref l, .int c, .int s, .int n]) ∧ H l = some (.lst (ns.map V.int)) ∧ a ≠ l ∧ ns.length ≤ 63 ∧ 0 ≤ c ∧ 0 ≤ s ∧ s < 2147483647
theorem Src.is {H : Hp} {a l : Addr} (d : Src H a l) : ∃ ys, H a = some (.lst ys) := by
  obtain ⟨ns, c, s, n, h, _⟩ := d
  exact ⟨_, h⟩
theorem Src.is' {H : Hp} {a l : Addr} (d : Src H a l) : ∃ ys, H l = some (.lst ys) := by
  obtain ⟨ns, c, s, n, _, h, _⟩ := d
  exact ⟨_, h⟩
theorem Src.tfr {H H' : Hp} {a l : Addr} (d : Src H a l) (f : Fr2 a l H H') : TFr H H' := fun p xs h => by
  obtain ⟨ys, e⟩ := d.is
  obtain ⟨zs, e'⟩ := d.is'
  exact f p _ h (ne_of h e (by intro z; cases z)) (ne_of h e' (by intro z; cases z))
theorem Src.keep {H H' : Hp} {a l : Addr} (d : Src H a l) (f : Same H H') : Src H' a l := by
  obtain ⟨ns, c, s, n, h, hl, r⟩ := d
  exact ⟨ns, c, s, n, f _ _ h, f _ _ hl, r⟩
theorem Src.put {H : Hp} {a l q : Addr} {o : HO} (d : Src H a l) (n1 : q ≠ a) (n2 : q ≠ l) : Src (upd H q o) a l := by
  obtain ⟨ns, c, s, n, h, hl, r⟩ := d
  exact ⟨ns, c, s, n, by rw [upd_ne n1.symm]; exact h, by rw [upd_ne n2.symm]; exact hl, r⟩
theorem Src.ne {H : Hp} {a l q : Addr} (d : Src H a l) (h : H q = Option.none) : q ≠ a := by
  obtain ⟨ys, z⟩ := d.is
  exact (ne_of_none z h).symm
theorem Src.ne' {H : Hp} {a l q : Addr} (d : Src H a l) (h : H q = Option.none) : q ≠ l := by
  obtain ⟨ys, z⟩ := d.is'
  exact (ne_of_none z h).symm
theorem Src.free {H H' : Hp} {a l q : Addr} (d : Src H' a l) (f : Fr2 a l H H') (h : H' q = Option.none) : H q = Option.none := by
  have n := d.ne h
  have n' := d.ne' h
  cases e : H q with
  | none => rfl
  | some u => rw [f q u e n n'] at h; cases h
def spRoll : Sp := fun vs H Q _ => ∃ (a l : Addr) (m : Int), vs = [.ref a, .int m] ∧ Src H a l ∧ 0 < m ∧ m < 1073741824 ∧ ∀ (d : Int) (H' : Hp), 0 ≤ d → d < m → Src H' a l → Fr2 a l H H' → Q (.int d) H'
def spSource (K : PySem.W.Frag) : Sp := fun vs H Q _ => ∃ (a : Addr) (ns : List Int), vs = [.ref a] ∧ SqL K H a (ns.map V.int) ∧ ns.length ≤ 63 ∧ ∀ (d l : Addr) (H' : Hp), Src H' d l → Same H H' → Q (.ref d) H'
end Xci

namespace Xci
open PySem L2
section
variable {P : Program} {w : World} {K : PySem.W.Frag} {mg : Str → Option Value} {base : Heap}
abbrev sLawSource : Stmt := top 61
theorem scLawSource : FnScope ["script", "seed", "cell"] ["script"] (defScope sLawSource) := ⟨rfl, rfl, rfl, by decide +kernel, rfl, by decide +kernel, by decide +kernel⟩
theorem ok_source {f : Addr} {fd : FuncData} (F : Fun K "_law_source" "_law_source" sLawSource f fd) (T : Txt mg) : FnOk P w K mg base CX0 1 f fd ["script"] (spSource K) := by
  refine F.ok scLawSource (fun vs H Q E h => ?_) (fun cdv A outer s H vs Q E hr h => ?_)
  · obtain ⟨a, m, rfl, _⟩ := h
    rfl
  · obtain ⟨a, ns, rfl, hS, hlen, k⟩ := h
    refine ⟨_, (pss_cons (ps_set (i := 1) scLawSource.nd rfl (by first | exact Or.inl rfl | exact Or.inr rfl) (pe_op op_add pe_int (pe_callB call_len rfl T.len PySem.boot_len (pa_cons (pv 0) pa_nil))))
      (pss_cons (ps_for PassesOwn.never rfl (pi_list (pv 0)) (pg_name (i := 2) scLawSource.nd rfl (by first | exact Or.inl rfl | exact Or.inr rfl)) (pss_one (ps_set (i := 1) scLawSource.nd rfl (by first | exact Or.inl rfl | exact Or.inr rfl) (pe_op op_mod (pe_callTy call_int1 rfl T.int (by decide +kernel) (pa_cons (pe_op op_add (pe_op op_add (pe_op op_mul (pv 1) pe_int) (pe_op op_mod (pe_callTy call_int1 rfl T.int (by decide +kernel) (pa_cons (pv 2) pa_nil)) pe_int)) pe_int) pa_nil)) pe_int))))
      (pss_one (ps_ret (pe_lst (pa_cons (pe_lc (own := [("cell", 2)]) rfl scLawSource.nd (pi_list (pe_slice sl_list (pv 0) po_none (po_some pe_int))) (blkOk_by (N := ["script", "seed", "cell"]) (sc := defScope sLawSource) (by decide +kernel)) (fun _ _ _ _ _ => (pg_name (i := 2) scLawSource.nd rfl (by first | exact Or.inl rfl | exact Or.inr rfl))) (fun _ _ _ _ _ => pts_nil) (fun _ _ _ _ _ => (pe_callTy call_int1 rfl T.int (by decide +kernel) (pa_cons (pv 2) pa_nil)))) (pa_cons pe_int (pa_cons (pv 1) (pa_cons pe_int pa_nil))))))))), ?_⟩
    refine ⟨_, rfl, _, _, rfl, .inl ⟨_, hS, rfl⟩, _, _, rfl, rfl, ?_⟩
    refine ⟨_, rfl, a, rfl, ⟨_, hS⟩, ?_⟩
    refine for_list (K := K) (a := a) (xs := ns.map V.int) (fun i σ H2 => H2 = H ∧ ∃ (z : Int) (v : Option V), 0 ≤ z ∧ z < 2147483647 ∧ σ = [some (.ref a), some (.int z), v]) ⟨rfl, _, none, ?_, ?_, rfl⟩ (fun i σ H2 _ ⟨e, _⟩ => by rw [e]; exact hS) ?_ ?_
    · omega
    · rw [List.length_map]
      omega
    · rintro i y σ H2 hi ⟨rfl, z, v, z0, z1, rfl⟩
      obtain ⟨c, hc, rfl⟩ := int_of hi
      obtain ⟨b1, b2⟩ := mod_bd (z * 40692 + c % 1000003 + 5) (m := 2147483629) (by decide)
      exact ⟨_, rfl, _, _, rfl, rfl, .inr ⟨by decide, by decide⟩, _, rfl, .inl ⟨_, rfl, _, _, rfl, rfl, (by show (0 : Int) < 1000003; decide), _, _, rfl, rfl, _, _, rfl, rfl, .inl ⟨_, rfl, _, _, rfl, rfl, (by show (0 : Int) < 2147483629; decide), rfl, _, some (.int c), b1, by omega, rfl⟩⟩⟩
    · rintro σ H2 ⟨rfl, z, v, z0, z1, rfl⟩
      refine ⟨_, rfl, _, rfl, _, _, rfl, hS, fun p2 hp2 => ⟨_, rfl, ⟨_, SqL.of upd_same⟩, ?_⟩⟩
      intro D hD
      have sp1 : Same H2 (upd H2 p2 (.lst (cutV (ns.map V.int) none (some 63)))) := Same.new hp2
      generalize hH3 : upd H2 p2 (.lst (cutV (ns.map V.int) none (some 63))) = H3 at sp1 hD
      have e3 : H3 p2 = some (.lst ((ns.take 63).map V.int)) := by rw [← hH3, cut63]; exact upd_same
      clear hH3
      refine lc_list (K := K) (a := p2) (xs := (ns.take 63).map V.int) (fun i H4 => ∃ zs : List Int, Same H3 H4 ∧ H4 D = some (.lst (zs.map V.int)) ∧ zs.length = i ∧ i ≤ 63) ⟨[], Same.new hD, upd_same, rfl, by omega⟩ (fun i H4 _ ⟨_, e, _⟩ => SqL.of (e _ _ e3)) ?_ ?_
      · rintro i y H4 hi ⟨zs, sm, e4, hz4, _⟩
        obtain ⟨c, hc, rfl⟩ := int_of hi
        have hi63 : i < 63 := by
          have q := (List.getElem?_eq_some_iff.mp hc).1
          rw [List.length_take] at q
          omega
        refine ⟨rfl, _, rfl, .inl ⟨_, rfl, _, e4, by rw [List.length_map, hz4]; exact small1000 (by omega), ?_⟩⟩
        exact ⟨zs ++ [c], fun b o h => by rw [upd_ne (ne_of_none h hD)]; exact sm b o h, by rw [upd_same, List.map_append]; rfl, by rw [List.length_append, hz4]; rfl, hi63⟩
      · rintro H4 ⟨zs, sm, e4, hz4, h63⟩
        refine ⟨_, rfl, (by show 4 ≤ sizeLine; decide), fun q hq => ?_⟩
        have h63' : zs.length ≤ 63 := by omega
        refine k q D _ ⟨zs, 0, z, 0, upd_same, by rw [upd_ne (ne_of_none e4 hq)]; exact e4, (ne_of_none e4 hq).symm, h63', by omega, z0, z1⟩ fun b o h => ?_
        rw [upd_ne (ne_of_none (sm _ _ (sp1 _ _ h)) hq)]
        exact sm _ _ (sp1 _ _ h)
abbrev sLawRoll : Stmt := top 62
theorem scLawRoll : FnScope ["source", "many", "cells", "cell", "found", "blend"] ["source", "many"] (defScope sLawRoll) := ⟨rfl, rfl, rfl, by decide +kernel, rfl, by decide +kernel, by decide +kernel⟩
theorem ok_roll {f : Addr} {fd : FuncData} (F : Fun K "_law_roll" "_law_roll" sLawRoll f fd) (T : Txt mg) : FnOk P w K mg base CX0 1 f fd ["source", "many"] spRoll := by
  refine F.ok scLawRoll (fun vs H Q E h => ?_) (fun cdv A outer s H vs Q E hr h => ?_)
  · obtain ⟨a, l, m, rfl, _⟩ := h
    rfl
  · obtain ⟨a, l, m, rfl, ⟨ns, c, s, n, h1, hl, hal, h63, hc0, hs0, hs1⟩, hm, hm2, k⟩ := h
    refine ⟨_, (pss_cons (ps_asg (pe_op op_add (pe_ix ix_list (pv 0) pe_int (fun _ _ => rfl)) pe_int) (pg_sub (pv 0) pe_int set_list))
      (pss_cons (ps_set (i := 2) scLawRoll.nd rfl (by first | exact Or.inl rfl | exact Or.inr rfl) (pe_ix ix_list (pv 0) pe_int (fun _ _ => rfl)))
      (C8.pss_cut (ps_if (PW.pt (pw_and (pt_cmpR op_eq (pe_ix ix_list (pv 0) pe_int (fun _ _ => rfl)) pe_int (nomark _)) (pw_and1 (pt_cmpR op_gt (pe_callB call_len rfl T.len PySem.boot_len (pa_cons (pv 2) pa_nil)) pe_int (nomark _))))) (pss_cons (ps_set (i := 3) scLawRoll.nd rfl (by first | exact Or.inl rfl | exact Or.inr rfl) (pe_callB call_abs rfl T.abs (by decide +kernel) (pa_cons (pe_bm PySem.F.plainAttrs_list PySem.F.slot_list_pop PySem.F.type_list_pop mt_popAt (pv 2) (pa_cons pe_int pa_nil)) pa_nil)))
      (pss_one (ps_if (pt_cmpR op_lt (pv 3) (pe_op op_pow pe_int pe_int) (nomark _)) (pss_one (ps_asg (pe_op op_mod (pe_callTy call_int1 rfl T.int (by decide +kernel) (pa_cons (pe_op op_add (pe_op op_add (pe_op op_mul (pe_ix ix_list (pv 0) pe_int (fun _ _ => rfl)) pe_int) (pv 3)) pe_int) pa_nil)) pe_int) (pg_sub (pv 0) pe_int set_list))) (pss_one (ps_asg (pv 3) (pg_sub (pv 0) pe_int set_list)))))) pss_nil)
      (C8.pss_cut (ps_if (pt_cmpR op_gt (pe_ix ix_list (pv 0) pe_int (fun _ _ => rfl)) pe_int (nomark _)) (pss_cons (ps_set (i := 4) scLawRoll.nd rfl (by first | exact Or.inl rfl | exact Or.inr rfl) (pe_op op_mod (pe_callTy call_int1 rfl T.int (by decide +kernel) (pa_cons (pe_ix ix_list (pv 0) pe_int (fun _ _ => rfl)) pa_nil)) (pv 1)))
      (pss_cons (ps_asg (pe_op op_fdiv (pe_callTy call_int1 rfl T.int (by decide +kernel) (pa_cons (pe_ix ix_list (pv 0) pe_int (fun _ _ => rfl)) pa_nil)) (pv 1)) (pg_sub (pv 0) pe_int set_list))
      (pss_one (ps_ret (pv 4))))) pss_nil)
      (C8.pss_cut (ps_set (i := 5) scLawRoll.nd rfl (by first | exact Or.inl rfl | exact Or.inr rfl) (pe_op op_mod (pe_callTy call_int1 rfl T.int (by decide +kernel) (pa_cons (pe_op op_add (pe_op op_mul (pe_op op_add (pe_ix ix_list (pv 0) pe_int (fun _ _ => rfl)) (pe_op op_mul (pe_ix ix_list (pv 0) pe_int (fun _ _ => rfl)) pe_int)) pe_int) pe_int) pa_nil)) pe_int))
      (C8.pss_cut (ps_set (i := 5) scLawRoll.nd rfl (by first | exact Or.inl rfl | exact Or.inr rfl) (pe_op op_mod (pe_callTy call_int1 rfl T.int (by decide +kernel) (pa_cons (pe_op op_mul (pv 5) (pe_op op_add (pe_op op_fdiv (pv 5) pe_int) pe_int)) pa_nil)) pe_int))
      (C8.pss_cut (ps_set (i := 5) scLawRoll.nd rfl (by first | exact Or.inl rfl | exact Or.inr rfl) (pe_op op_mod (pe_callTy call_int1 rfl T.int (by decide +kernel) (pa_cons (pe_op op_mul (pv 5) (pe_op op_add (pe_op op_fdiv (pv 5) pe_int) pe_int)) pa_nil)) pe_int))
      (pss_one (ps_ret (pe_op op_mod (pe_op op_fdiv (pv 5) pe_int) (pv 1))))))))))), ?_⟩
    refine ⟨_, rfl, a, _, _, _, rfl, rfl, SqL.of h1, at_of (j := 3) rfl rfl, _, _, rfl, rfl, _, rfl, a, _, _, 3, rfl, rfl, h1, rfl, ?_⟩
    generalize hH2 : upd H a _ = H2
    have e2 : H2 a = some (.lst [.ref l, .int c, .int s, .int (n + 1)]) := by rw [← hH2]; exact upd_same
    have o2 : ∀ b, b ≠ a → H2 b = H b := fun b hb => by rw [← hH2]; exact upd_ne hb
    clear hH2
    have hl2 : H2 l = some (.lst (ns.map V.int)) := by rw [o2 l (Ne.symm hal)]; exact hl
    refine ⟨_, rfl, a, _, _, _, rfl, rfl, SqL.of e2, at_of (j := 0) rfl rfl, ?_⟩
    have fin : ∀ (d c s n : Int) (ms : List Int) (H' : Hp), 0 ≤ d → d < m → H' a = some (.lst [.ref l, .int c, .int s, .int n]) → H' l = some (.lst (ms.map V.int)) → ms.length ≤ 63 → 0 ≤ c → 0 ≤ s → s < 2147483647 → (∀ b, b ≠ a → b ≠ l → H' b = H b) → Q (.int d) H' :=
      fun d c s n ms H' d0 d1 e el l63 c0 s0 s1 o => k d H' d0 d1 ⟨ms, c, s, n, e, el, hal, l63, c0, s0, s1⟩ (fun b u h hb hb' => by rw [o b hb hb']; exact h)
    refine ⟨fun σ' H3 => ∃ (x : Option V) (ms : List Int) (c s : Int), σ' = [some (.ref a), some (.int m), some (.ref l), x, none, none] ∧ H3 a = some (.lst [.ref l, .int c, .int s, .int (n + 1)]) ∧ H3 l = some (.lst (ms.map V.int)) ∧ ms.length ≤ 63 ∧ 0 ≤ c ∧ 0 ≤ s ∧ s < 2147483647 ∧ ∀ b, b ≠ a → b ≠ l → H3 b = H b, ?_, ?_⟩
    · refine ⟨_, rfl, a, _, _, _, rfl, rfl, SqL.of e2, at_of (j := 1) rfl rfl, rfl, _, rfl, ?_⟩
      refine ite2 (fun hc => ?_) (fun _ => ⟨_, ns, c, s, rfl, e2, hl2, h63, hc0, hs0, hs1, fun b hb _ => o2 b hb⟩)
      refine ⟨_, rfl, _, _, rfl, .inl ⟨_, SqL.of hl2, rfl⟩, _, _, rfl, rfl, _, rfl, ?_⟩
      refine ite2 (fun hn => ?_) (fun _ => ⟨_, ns, c, s, rfl, e2, hl2, h63, hc0, hs0, hs1, fun b hb _ => o2 b hb⟩)
      cases ns with
      | nil => cases hn
      | cons z r =>
      refine ⟨_, rfl, .inl ⟨rfl, _, SqL.of hl2⟩, l, _, _, 0, V.int z, rfl, rfl, hl2, by decide, by decide, by simp [seqIndex?], rfl, _, rfl, ?_⟩
      have hr63 : r.length ≤ 63 := by rw [List.length_cons] at h63; omega
      generalize hH3 : upd H2 l _ = H3
      have e3 : H3 a = some (.lst [.ref l, .int c, .int s, .int (n + 1)]) := by rw [← hH3, upd_ne hal]; exact e2
      have hl3 : H3 l = some (.lst (r.map V.int)) := by rw [← hH3]; exact upd_same
      have o3 : ∀ b, b ≠ a → b ≠ l → H3 b = H b := fun b hb hb' => by rw [← hH3, upd_ne hb']; exact o2 b hb
      clear hH3
      have y0 : 0 ≤ (if z < 0 then -z else z) := by split <;> omega
      generalize (if z < 0 then -z else z) = y at *
      refine ⟨_, rfl, _, _, rfl, rfl, ⟨by decide, by decide, by decide⟩, _, _, rfl, rfl, _, rfl, ?_⟩
      refine ite2 (fun _ => ?_) (fun _ => ?_)
      · refine ⟨_, rfl, a, _, _, _, rfl, rfl, SqL.of e3, at_of (j := 2) rfl rfl, _, _, rfl, rfl, .inr ⟨by decide, by decide⟩, _, rfl, _, _, rfl, rfl, _, _, rfl, rfl, .inl ⟨_, rfl, _, _, rfl, rfl, (by show (0 : Int) < 2147483647; decide), _, rfl, a, _, _, 2, rfl, rfl, e3, rfl, ?_⟩⟩
        obtain ⟨b1, b2⟩ := mod_bd (s * 48271 + y + 1) (m := 2147483647) (by decide)
        exact ⟨_, r, c, _, rfl, upd_same, by rw [upd_ne hal.symm]; exact hl3, hr63, hc0, b1, b2, fun b hb hb' => by rw [upd_ne hb]; exact o3 b hb hb'⟩
      · refine ⟨_, rfl, _, rfl, a, _, _, 1, rfl, rfl, e3, rfl, ?_⟩
        exact ⟨_, r, y, s, rfl, upd_same, by rw [upd_ne hal.symm]; exact hl3, hr63, y0, hs0, hs1, fun b hb hb' => by rw [upd_ne hb]; exact o3 b hb hb'⟩
    clear hl2 o2 e2 h1 hl h63 hc0 hs0 hs1
    rintro σ' H3 ⟨x, ms, c, s, rfl, e3, hl3, l63, hc0, hs0, hs1, o3⟩
    refine ⟨fun σ' H4 => σ' = [some (.ref a), some (.int m), some (.ref l), x, none, none] ∧ H4 = H3, ?_, ?_⟩
    · refine ⟨_, rfl, a, _, _, _, rfl, rfl, SqL.of e3, at_of (j := 1) rfl rfl, _, _, rfl, rfl, _, rfl, ?_⟩
      refine ite2 (fun _ => ?_) (fun _ => ⟨rfl, rfl⟩)
      obtain ⟨b1, b2⟩ := mod_bd c hm
      refine ⟨_, rfl, a, _, _, _, rfl, rfl, SqL.of e3, at_of (j := 1) rfl rfl, .inl ⟨_, rfl, _, rfl, _, _, rfl, rfl, hm, ?_⟩⟩
      refine ⟨_, rfl, a, _, _, _, rfl, rfl, SqL.of e3, at_of (j := 1) rfl rfl, .inl ⟨_, rfl, _, rfl, _, _, rfl, rfl, ⟨hm, hm2⟩, _, rfl, a, _, _, 1, rfl, rfl, e3, rfl, _, rfl, ?_⟩⟩
      exact fin _ (c / m) s _ ms _ b1 b2 upd_same (by rw [upd_ne hal.symm]; exact hl3) l63 (Int.ediv_nonneg hc0 (by omega)) hs0 hs1 fun b hb hb' => by rw [upd_ne hb]; exact o3 b hb hb'
    rintro σ' H4 ⟨rfl, rfl⟩
    refine ⟨fun σ' H5 => ∃ y : Int, 0 ≤ y ∧ y < 2147483647 ∧ σ' = [some (.ref a), some (.int m), some (.ref l), x, none, some (.int y)] ∧ H5 = H4, ?_, ?_⟩
    · refine ⟨_, rfl, a, _, _, _, rfl, rfl, SqL.of e3, at_of (j := 2) rfl rfl, _, rfl, a, _, _, _, rfl, rfl, SqL.of e3, at_of (j := 3) rfl rfl, _, _, rfl, rfl, .inr ⟨by decide, by decide⟩, _, _, rfl, rfl, _, _, rfl, rfl, .inr ⟨by decide, by decide⟩, _, _, rfl, rfl, .inl ⟨_, rfl, _, _, rfl, rfl, (by show (0 : Int) < 2147483647; decide), ?_⟩⟩
      obtain ⟨b1, b2⟩ := mod_bd ((s + (n + 1) * 9973) * 69621 + 11) (m := 2147483647) (by decide)
      exact ⟨_, b1, b2, rfl, rfl⟩
    rintro σ' H5 ⟨y, y0, y1, rfl, rfl⟩
    refine ⟨fun σ' H6 => ∃ y : Int, 0 ≤ y ∧ y < 2147483587 ∧ σ' = [some (.ref a), some (.int m), some (.ref l), x, none, some (.int y)] ∧ H6 = H5, ?_, ?_⟩
    · refine ⟨_, rfl, _, rfl, _, _, rfl, rfl, ⟨by decide, by decide⟩, _, _, rfl, rfl, _, _, rfl, rfl, .inl ⟨by omega, by omega⟩, .inl ⟨_, rfl, _, _, rfl, rfl, (by show (0 : Int) < 2147483587; decide), ?_⟩⟩
      obtain ⟨b1, b2⟩ := mod_bd (y * (y / 1009 + 48271)) (m := 2147483587) (by decide)
      exact ⟨_, b1, b2, rfl, rfl⟩
    rintro σ' H6 ⟨y2, z0, z1, rfl, rfl⟩
    refine ⟨fun σ' H7 => ∃ y : Int, σ' = [some (.ref a), some (.int m), some (.ref l), x, none, some (.int y)] ∧ H7 = H6, ?_, ?_⟩
    · refine ⟨_, rfl, _, rfl, _, _, rfl, rfl, ⟨by decide, by decide⟩, _, _, rfl, rfl, _, _, rfl, rfl, .inl ⟨by omega, by omega⟩, .inl ⟨_, rfl, _, _, rfl, rfl, (by show (0 : Int) < 2147483399; decide), ?_⟩⟩
      exact ⟨_, rfl, rfl⟩
    rintro σ' H7 ⟨y3, rfl, rfl⟩
    obtain ⟨b1, b2⟩ := mod_bd (y3 / 97) hm
    refine ⟨_, rfl, _, _, rfl, rfl, ⟨by decide, by decide⟩, _, rfl, _, _, rfl, rfl, hm, ?_⟩
    exact fin _ c s _ ms _ b1 b2 e3 hl3 l63 hc0 hs0 hs1 o3
end
end Xci

namespace Xci
open PySem L2
/-! ### another source of draws: its state stands ahead of its count -/
def Dice (H : Hp) (a l : Addr) : Prop := ∃ (ns : List Int) (i c s n : Int), H a = some (.lst [.ref l, .int i, .int c, .int s, .int n]) ∧ H l = some (.lst (ns.map V.int)) ∧ a ≠ l ∧ (∀ z ∈ ns, 0 ≤ z) ∧ 0 ≤ i ∧ i ≤ (ns.length : Int) ∧ 0 ≤ c ∧ 0 ≤ s ∧ s < 2147483647
theorem Dice.is {H : Hp} {a l : Addr} (d : Dice H a l) : ∃ ys, H a = some (.lst ys) := by
  obtain ⟨ns, i, c, s, n, h, _⟩ := d
  exact ⟨_, h⟩
theorem Dice.is' {H : Hp} {a l : Addr} (d : Dice H a l) : ∃ ys, H l = some (.lst ys) := by
  obtain ⟨ns, i, c, s, n, _, h, _⟩ := d
  exact ⟨_, h⟩
theorem Dice.tfr {H H' : Hp} {a l : Addr} (d : Dice H a l) (f : Fr a H H') : TFr H H' := by
  obtain ⟨ys, h⟩ := d.is
  exact TFr.fr h f
theorem Dice.keep {H H' : Hp} {a l : Addr} (d : Dice H a l) (f : Same H H') : Dice H' a l := by
  obtain ⟨ns, i, c, s, n, h, hl, r⟩ := d
  exact ⟨ns, i, c, s, n, f _ _ h, f _ _ hl, r⟩
theorem Dice.put {H : Hp} {a l q : Addr} {o : HO} (d : Dice H a l) (n1 : q ≠ a) (n2 : q ≠ l) : Dice (upd H q o) a l := by
  obtain ⟨ns, i, c, s, n, h, hl, r⟩ := d
  exact ⟨ns, i, c, s, n, by rw [upd_ne n1.symm]; exact h, by rw [upd_ne n2.symm]; exact hl, r⟩
theorem Dice.ne {H : Hp} {a l q : Addr} (d : Dice H a l) (h : H q = Option.none) : q ≠ a := by
  obtain ⟨ys, z⟩ := d.is
  exact (ne_of_none z h).symm
theorem Dice.ne' {H : Hp} {a l q : Addr} (d : Dice H a l) (h : H q = Option.none) : q ≠ l := by
  obtain ⟨ys, z⟩ := d.is'
  exact (ne_of_none z h).symm
theorem Dice.free {H H' : Hp} {a l q : Addr} (d : Dice H' a l) (f : Fr a H H') (h : H' q = Option.none) : H q = Option.none := by
  have n := d.ne h
  cases e : H q with
  | none => rfl
  | some u => rw [f q u e n] at h; cases h
def spDraw : Sp := fun vs H Q _ => ∃ (a l : Addr) (m : Int), vs = [.ref a, .int m] ∧ Dice H a l ∧ 0 < m ∧ m < 1073741824 ∧ ∀ (d : Int) (H' : Hp), 0 ≤ d → d < m → Dice H' a l → Fr a H H' → Q (.int d) H'
def spDice (K : PySem.W.Frag) : Sp := fun vs H Q _ => ∃ (a : Addr) (ns : List Int), vs = [.ref a] ∧ SqL K H a (ns.map V.int) ∧ ns.length ≤ 63 ∧ ∀ (d l : Addr) (H' : Hp), Dice H' d l → Same H H' → Q (.ref d) H'
def spRare (K : PySem.W.Frag) : Sp := fun vs H Q _ => ∃ (a : Addr) (ns : List Int) (m : Int), vs = [.ref a, .int m] ∧ SqL K H a (ns.map V.int) ∧ ns.length ≤ 63 ∧ 0 < m ∧ ∀ (d : Int) (H' : Hp), 0 ≤ d → d < m → Same H H' → Q (.int d) H'
def spOrder : Sp := fun vs H Q _ => ∃ (a l : Addr) (m : Nat), vs = [.ref a, .int (m : Int)] ∧ Dice H a l ∧ m ≤ 64 ∧
  ∀ (q : Addr) (js : List Nat) (H' : Hp), js.Perm (List.range m) → H' q = some (.lst ((nat2 js).map V.int)) → H q = Option.none → Dice H' a l → Fr a H H' → Q (.ref q) H'
def spAllCells : Sp := fun vs H Q _ => ∃ n : Int, vs = [.int n] ∧ 0 ≤ n ∧ n ≤ 6 ∧ ∀ (q : Addr) (ys : List V) (cs : List (List Int)) (H' : Hp), H' q = some (.lst ys) → Mks H' ys cs → cs.Perm (lots (rng n)) → Same H H' → H q = Option.none → Q (.ref q) H'
def spFamilyD : Sp := fun vs H Q _ => ∃ (a l : Addr) (mm mc : Int), vs = [.ref a, .int mm, .int mc] ∧ Dice H a l ∧ 0 ≤ mm ∧ mm ≤ 6 ∧ 1 ≤ mc ∧ mc ≤ 24 ∧
  ∀ (v : V) (p : Addr) (many : Int) (ys : List V) (cells : List (List Int)) (H' : Hp), Tup H' v [.int many, .ref p] → H' p = some (.tup ys) → Mks H' ys cells → FamOk many cells → Dice H' a l → Fr a H H' → Q v H'
def spSomeT : Sp := fun vs H Q _ => ∃ (a l : Addr) (v : V) (ms : List Int), vs = [.ref a, v] ∧ Dice H a l ∧ Xci.Mk H v ms ∧ ms.length ≤ 64 ∧ ∀ (u : V) (ks : List Int) (H' : Hp), Xci.Mk H' u ks → ks.Sublist ms → Dice H' a l → Fr a H H' → Q u H'
def spSomeL : Sp := fun vs H Q _ => ∃ (a l p : Addr) (ms : List Int), vs = [.ref a, .ref p] ∧ Dice H a l ∧ H p = some (.lst (ms.map V.int)) ∧ p ≠ a ∧ ms.length ≤ 64 ∧ ∀ (u : V) (ks : List Int) (H' : Hp), Xci.Mk H' u ks → ks.Sublist ms → Dice H' a l → Fr a H H' → Q u H'
def spSome : Sp := fun vs H Q E => spSomeT vs H Q E ∨ spSomeL vs H Q E
/-! ### rules -/
/-- a strike (of y where x is), or a lead (from x to y) -/
structure Rl where
  st : Bool
  x : List Int
  y : List Int
def Rl.word (r : Rl) : Str := if r.st then "strike" else "lead"
def RlV (H : Hp) (v : V) (r : Rl) : Prop := ∃ u w, Tup H v [.str r.word, u, w] ∧ Xci.Mk H u r.x ∧ Xci.Mk H w r.y
theorem RlV.keep {H H' : Hp} {v : V} {r : Rl} (f : TFr H H') (h : RlV H v r) : RlV H' v r := by
  obtain ⟨u, w, a, b, c⟩ := h
  exact ⟨u, w, a.keep f, Tup.keep f b, Tup.keep f c⟩
structure RlOk (r : Rl) : Prop where
  x : MarksOk 6 r.x
  y : MarksOk 6 r.y
abbrev Rls (H : Hp) (vs : List V) (rs : List Rl) : Prop := Paired (fun v r => RlV H v r) vs rs
theorem Rls.keep {H H' : Hp} {vs : List V} {rs : List Rl} (f : TFr H H') (t : Rls H vs rs) : Rls H' vs rs := Paired.mapP t fun _ _ h => RlV.keep f h
def lessM (c ys : List Int) : List Int := c.filter fun m => !decide (m ∈ ys)
def stepR (r : Rl) (c : List Int) : List Int := if r.st = true then (if inside r.x c = true then lessM c r.y else c) else (if r.x = c then r.y else c)
def behindR (rs : List Rl) (c : List Int) : List Int := rs.foldl (fun c r => stepR r c) c
theorem stepR_ok {r : Rl} {c : List Int} (ok : RlOk r) (h : MarksOk 6 c) : MarksOk 6 (stepR r c) := by
  unfold stepR
  split
  · split
    · exact h.sub List.filter_sublist
    · exact h
  · split
    · exact ok.y
    · exact h
theorem behindR_ok : ∀ {rs : List Rl} {c : List Int}, (∀ r ∈ rs, RlOk r) → MarksOk 6 c → MarksOk 6 (behindR rs c)
  | [], _, _, h => h
  | r :: rs, c, ok, h => behindR_ok (rs := rs) (fun x hx => ok x (List.mem_cons_of_mem _ hx)) (stepR_ok (ok r List.mem_cons_self) h)
theorem behindR_app (rs ss : List Rl) (c : List Int) : behindR (rs ++ ss) c = behindR ss (behindR rs c) := List.foldl_append ..
theorem behindR_next {rs : List Rl} {i : Nat} {r : Rl} (c : List Int) (h : rs[i]? = some r) : behindR (rs.take (i + 1)) c = stepR r (behindR (rs.take i) c) := by
  rw [List.take_add_one, h, behindR_app] <;> rfl
theorem lessM_lessM (c ys : List Int) : lessM (lessM c ys) ys = lessM c ys := by
  unfold lessM
  rw [List.filter_filter]
  refine List.filter_congr fun m _ => ?_
  rw [Bool.and_self]
theorem strike_twice (r : Rl) (h : r.st = true) (c : List Int) : stepR r (stepR r c) = stepR r c := by
  unfold stepR
  rw [if_pos h, if_pos h]
  by_cases e : inside r.x c = true
  · rw [if_pos e]
    split
    · exact lessM_lessM _ _
    · rfl
  · rw [if_neg e, if_neg e]
theorem lessM_next {c : List Int} {i : Nat} {m : Int} (ys : List Int) (h : c[i]? = some m) : lessM (c.take (i + 1)) ys = lessM (c.take i) ys ++ (if (!decide (m ∈ ys)) = true then [m] else []) := by
  unfold lessM
  rw [List.take_add_one, h, List.filter_append]
  refine congrArg _ ?_
  show ([m] : List Int).filter _ = _
  rw [List.filter_cons, List.filter_nil]
theorem lessM_len (c ys : List Int) (i : Nat) : (lessM (c.take i) ys).length ≤ i := Nat.le_trans (List.length_filter_le _ _) (List.length_take_le _ _)
theorem eqv_marks (a b : List Int) : PyData.eqv (.tuple (a.map PyData.int)) (.tuple (b.map PyData.int)) = decide (a = b) := by
  simp only [PyData.eqv]
  exact eqvAll_ints a b
theorem eq_marks {K : PySem.W.Frag} {H : Hp} {u v : V} {a b : List Int} {Q : V → Hp → Prop} (hu : Xci.Mk H u a) (hv : Xci.Mk H v b) (q : Q (.bl (decide (a = b))) H) : rEqD K u v H Q := by
  refine ⟨_, _, dp_marks hu, dp_marks hv, sh_marks a, sh_marks b, ?_⟩
  rw [eqv_marks]
  exact q
/-- rules compare -/
def rlD (r : Rl) : PyData := .tuple [.str r.word, .tuple (r.x.map PyData.int), .tuple (r.y.map PyData.int)]
theorem dp_rl {K : PySem.W.Frag} {H : Hp} {v : V} {r : Rl} (h : RlV H v r) : Dp K H v (rlD r) := by
  obtain ⟨u, w, ⟨p, rfl, hp⟩, mu, mw⟩ := h
  exact .tup (sqT hp) (.cons (.str _) (.cons (dp_marks mu) (.cons (dp_marks mw) .nil)))
theorem dp_rls {K : PySem.W.Frag} {H : Hp} : ∀ {ys : List V} {rs : List Rl}, Rls H ys rs → DpAll K H ys (rs.map rlD)
  | _, _, .nil => .nil
  | _, _, .cons m r => .cons (dp_rl m) (dp_rls r)
theorem lay_rl (r : Rl) : PyData.canLay0 (rlD r) = true ∧ PyData.depth (rlD r) ≤ 2 := by
  obtain ⟨a, b⟩ := lay_ints r.x
  obtain ⟨c, d⟩ := lay_ints r.y
  have w : PyData.strOk r.word = true := by
    unfold Rl.word
    cases r.st <;> decide +kernel
  refine ⟨by simp [rlD, PyData.canLay0, PyData.canLayAll0, a, c, w], ?_⟩
  simp [rlD, PyData.depth, PyData.depthAll, b, d]
theorem lay_rls : ∀ (rs : List Rl), PyData.canLayAll0 (rs.map rlD) = true ∧ PyData.depthAll (rs.map rlD) ≤ 2
  | [] => ⟨rfl, Nat.zero_le _⟩
  | r :: rs => by
    obtain ⟨a, b⟩ := lay_rls rs
    obtain ⟨c, d⟩ := lay_rl r
    rw [List.map_cons]
    refine ⟨by rw [PyData.canLayAll0, a, c] <;> rfl, ?_⟩
    rw [PyData.depthAll]
    exact Nat.max_le.mpr ⟨d, b⟩
theorem sh_rls (rs : List Rl) : SeqAt.shaped (.list (rs.map rlD)) = true := by
  obtain ⟨a, b⟩ := lay_rls rs
  have d : PyData.depth (.list (rs.map rlD)) ≤ 64 := by
    simp only [PyData.depth]
    omega
  unfold SeqAt.shaped
  rw [decide_eq_true d, Bool.and_true]
  simpa [PyData.canLay0] using a
theorem ne_rls {K : PySem.W.Frag} {H : Hp} {a b : Addr} {xs ys : List V} {rs : List Rl} {Q : V → Hp → Prop} (ha : H a = some (.lst xs)) (hb : H b = some (.lst ys)) (ma : Rls H xs rs) (mb : Rls H ys rs) (q : Q (.bl false) H) : rNeD K (.ref a) (.ref b) H Q := by
  refine ⟨_, _, .lst (SqL.of ha) (dp_rls ma), .lst (SqL.of hb) (dp_rls mb), sh_rls rs, sh_rls rs, ?_⟩
  rw [eqv_same (sh_rls rs)]
  exact q
theorem ne_mk {K : PySem.W.Frag} {H : Hp} {u v : V} {ms : List Int} {Q : V → Hp → Prop} (hu : Xci.Mk H u ms) (hv : Xci.Mk H v ms) (q : Q (.bl false) H) : rNeD K u v H Q := ne_tup hu hv (ok_intsV ms) q
def spLawBehind : Sp := fun vs H Q _ => ∃ (p : Addr) (v : V) (ys : List V) (rs : List Rl) (c : List Int), vs = [.ref p, v] ∧ H p = some (.lst ys) ∧ Rls H ys rs ∧ (∀ r ∈ rs, RlOk r) ∧ Xci.Mk H v c ∧ MarksOk 6 c ∧ ∀ (u : V) (H' : Hp), Xci.Mk H' u (behindR rs c) → Same H H' → Q u H'
def spLawRule : Sp := fun vs H Q _ => ∃ (a l p : Addr) (many : Int) (ys : List V) (cells : List (List Int)), vs = [.ref a, .int many, .ref p] ∧ Dice H a l ∧ 0 ≤ many ∧ many ≤ 6 ∧ H p = some (.tup ys) ∧ Mks H ys cells ∧ cells ≠ [] ∧ cells.length ≤ 24 ∧ (∀ c ∈ cells, MarksOk 6 c) ∧
  ∀ (v : V) (r : Rl) (H' : Hp), RlV H' v r → RlOk r → Dice H' a l → Fr a H H' → Q v H'
def spIsRule : Sp := fun vs H Q _ => ∃ (v : V) (r : Rl), vs = [v] ∧ RlV H v r ∧ RlOk r ∧ ∀ H', Same H H' → Q (.bl true) H'
/-- a list or a tuple of rules -/
structure RlsAt (w : Bool) (H : Hp) (p : Addr) (ys : List V) (rs : List Rl) : Prop where
  at_ : H p = some (if w = true then .lst ys else .tup ys)
  rl : Rls H ys rs
  ok : ∀ r ∈ rs, RlOk r
  few : rs.length ≤ 20
theorem RlsAt.keep {w : Bool} {H H' : Hp} {p : Addr} {ys : List V} {rs : List Rl} (h : RlsAt w H p ys rs) (s : Same H H') : RlsAt w H' p ys rs := ⟨s _ _ h.at_, h.rl.keep (TFr.same s), h.ok, h.few⟩
def spAreRules (w : Bool) : Sp := fun vs H Q _ => ∃ (p : Addr) (ys : List V) (rs : List Rl), vs = [.ref p] ∧ RlsAt w H p ys rs ∧ ∀ H', Same H H' → Q (.bl true) H'
def spNeedRules (w : Bool) : Sp := fun vs H Q _ => ∃ (p : Addr) (ys : List V) (rs : List Rl), vs = [.ref p] ∧ RlsAt w H p ys rs ∧ ∀ H', Same H H' → Q .non H'
def spBehind (w : Bool) : Sp := fun vs H Q _ => ∃ (p : Addr) (v : V) (ys : List V) (rs : List Rl) (c : List Int), vs = [.ref p, v] ∧ RlsAt w H p ys rs ∧ Xci.Mk H v c ∧ MarksOk 6 c ∧ ∀ (u : V) (H' : Hp), Xci.Mk H' u (behindR rs c) → Same H H' → Q u H'
def spEither (f : Bool → Sp) : Sp := fun vs H Q E => f true vs H Q E ∨ f false vs H Q E
theorem ok_either {P : Program} {w : World} {K : PySem.W.Frag} {mg : Str → Option Value} {base : Heap} {f : Addr} {fd : FuncData} {ps : List Str} {k : Nat} {sp sp' : Sp} (g : FnOk P w K mg base CX0 k f fd ps sp) (g' : FnOk P w K mg base CX0 k f fd ps sp') : FnOk P w K mg base CX0 k f fd ps (fun vs H Q E => sp vs H Q E ∨ sp' vs H Q E) :=
  ⟨fun vs H Q E h => h.elim (g.len vs H Q E) (g'.len vs H Q E), fun A outer s H args us vs Q E hr he hb hv hs => hs.elim (fun h => g.run A outer s H args us vs Q E hr he hb hv h) (fun h => g'.run A outer s H args us vs Q E hr he hb hv h)⟩
end Xci

namespace Xci
open PySem L2
theorem out_nilM (ms ns : List Int) : decide (V.int (((ms.filter fun m => !decide (m ∈ ns)).length : Nat) : Int) = V.int 0) = inside ms ns := by
  unfold inside
  induction ms with
  | nil => rfl
  | cons m r ih =>
    rw [List.all_cons, List.filter_cons]
    by_cases h : m ∈ ns
    · simp only [h, decide_true, Bool.not_true, Bool.true_and]
      exact ih
    · simp [h]
      omega
section
variable {P : Program} {w : World} {K : PySem.W.Frag} {mg : Str → Option Value} {base : Heap}
abbrev sLawLies : Stmt := top 65
theorem scLawLies : FnScope ["one", "other", "mark"] ["one", "other"] (defScope sLawLies) := ⟨rfl, rfl, rfl, by decide +kernel, rfl, by decide +kernel, by decide +kernel⟩
theorem ok_liesS {f : Addr} {fd : FuncData} (F : Fun K "_law_lies" "_law_lies" sLawLies f fd) (T : Txt mg) : FnOk P w K mg base CX0 1 f fd ["one", "other"] spIn := by
  refine F.ok scLawLies (fun vs H Q E h => ?_) (fun cdv A outer s H vs Q E hr h => ?_)
  · obtain ⟨u, v, ms, ns, rfl, _⟩ := h
    rfl
  · obtain ⟨u, v, ms, ns, rfl, ⟨p, rfl, hp⟩, ⟨q, rfl, hq⟩, hl, k⟩ := h
    refine ⟨_, (pss_one (ps_ret (pe_cmpR op_eq (pe_callB call_len rfl T.len PySem.boot_len (pa_cons (pe_lc (own := [("mark", 2)]) rfl scLawLies.nd (pi_tup (pv 0)) (blkOk_by (N := ["one", "other", "mark"]) (sc := defScope sLawLies) (by decide +kernel)) (fun _ _ _ _ _ => (pg_name (i := 2) scLawLies.nd rfl (by first | exact Or.inl rfl | exact Or.inr rfl))) (fun _ _ _ _ _ => pts_one (pt_cmpR (show OpR _ _ (rIn K true) from op_notIn_seq) (pv 2) (pv 1) (by with_unfolding_all rfl))) (fun _ _ _ _ _ => (pv 2))) pa_nil)) pe_int (nomark _)))), ?_⟩
    refine ⟨_, rfl, p, rfl, ⟨_, sqT hp⟩, fun D hD => ?_⟩
    refine lc_tup (K := K) (a := p) (xs := ms.map V.int) (fun i H4 => Same H H4 ∧ H4 D = some (.lst ((lessM (ms.take i) ns).map V.int))) ⟨Same.new hD, upd_same⟩ (fun i H4 _ ⟨e, _⟩ => sqT (e _ _ hp)) ?_ ?_
    · rintro i y H4 hi ⟨sm, e4⟩
      obtain ⟨m, hm, rfl⟩ := int_of hi
      have lt := (List.getElem?_eq_some_iff.mp hm).1
      have ll := lessM_len ms ns i
      refine ⟨rfl, _, rfl, _, rfl, q, _, rfl, .inr (sqT (sm _ _ hq)), rfl, flat_ints ns, _, rfl, ?_⟩
      rw [inV_int, lessM_next ns hm]
      refine ite2 (fun hn => ?_) (fun hn => ?_)
      · refine ⟨_, rfl, _, e4, by rw [List.length_map]; exact small1000 (by omega), fun b o h => by rw [upd_ne (ne_of_none h hD)]; exact sm b o h, ?_⟩
        rw [upd_same, if_pos (show (!decide (m ∈ ns)) = true from hn), List.map_append]
        rfl
      · refine ⟨sm, ?_⟩
        rw [if_neg (show ¬ (!decide (m ∈ ns)) = true from hn), List.append_nil]
        exact e4
    · rintro H4 ⟨sm, e4⟩
      rw [List.length_map, List.take_length] at e4
      refine ⟨_, _, rfl, .inl ⟨_, SqL.of e4, rfl⟩, rfl, ?_⟩
      rw [List.length_map]
      unfold lessM
      rw [out_nilM]
      exact k H4 sm
end
end Xci

namespace Xci
open PySem L2
/-! ### strikes: where they end; which forms can stand in a row -/
section
variable {α : Type} [DecidableEq α]
/-- the marks that all cells of z have -/
def Shared0 (rows : List (List Int × α)) (z : α) (m : Int) : Prop := ∀ r ∈ rows, r.2 = z → m ∈ r.1
/-- z has a cell -/
def Named (rows : List (List Int × α)) (z : α) : Prop := ∃ r ∈ rows, r.2 = z
/-- no strike is left -/
def Still (rows : List (List Int × α)) (h : α → Int → Prop) : Prop := ∀ z, Named rows z → ∀ r ∈ rows, (∀ m, h z m → m ∈ r.1) → ∀ m, h z m → h r.2 m
/-- what strikes have left so far: within the shared marks, and no less than where they end -/
structure Under (rows : List (List Int × α)) (h : α → Int → Prop) : Prop where
  low : ∀ z, Named rows z → ∀ m, h z m → Shared0 rows z m
  top : ∀ g, Still rows g → (∀ z, Named rows z → ∀ m, g z m → Shared0 rows z m) → ∀ z, Named rows z → ∀ m, g z m → h z m
theorem Under.start {rows : List (List Int × α)} {h : α → Int → Prop} (e : ∀ z, Named rows z → ∀ m, h z m ↔ Shared0 rows z m) : Under rows h :=
  ⟨fun z n m => (e z n m).mp, fun g _ b z n m q => (e z n m).mpr (b z n m q)⟩
theorem Under.strike {rows : List (List Int × α)} {h h' : α → Int → Prop} (U : Under rows h) {z : α} (nz : Named rows z) {r : List Int × α} (hr : r ∈ rows) (w : ∀ m, h z m → m ∈ r.1)
    (e : ∀ m, h' z m ↔ h z m ∧ h r.2 m) (o : ∀ y, y ≠ z → ∀ m, h' y m ↔ h y m) : Under rows h' := by
  refine ⟨fun y n m q => ?_, fun g st b y n m q => ?_⟩
  · by_cases c : y = z
    · subst c; exact U.low y n m ((e m).mp q).1
    · exact U.low y n m ((o y c m).mp q)
  · by_cases c : y = z
    · subst c
      have g1 := U.top g st b
      exact (e m).mpr ⟨g1 y n m q, g1 r.2 ⟨r, hr, rfl⟩ m (st y n r hr (fun k hk => w k (g1 y n k hk)) m q)⟩
    · exact (o y c m).mpr (U.top g st b y n m q)
theorem Under.one {rows : List (List Int × α)} {h h' : α → Int → Prop} (U : Under rows h) (S : Still rows h) (U' : Under rows h') (S' : Still rows h') {z : α} (n : Named rows z) (m : Int) : h z m ↔ h' z m :=
  ⟨U'.top h S U.low z n m, U.top h' S' U'.low z n m⟩
/-- the marks that strikes leave tell all forms apart -/
def Apart (rows : List (List Int × α)) (h : α → Int → Prop) : Prop := ∀ y z, Named rows y → Named rows z → (∀ m, h y m ↔ h z m) → y = z
def Holds0 (rows : List (List Int × α)) : Prop := ∃ h, Under rows h ∧ Still rows h ∧ Apart rows h
theorem holds0_iff {rows : List (List Int × α)} {h : α → Int → Prop} (U : Under rows h) (S : Still rows h) : Holds0 rows ↔ Apart rows h :=
  ⟨fun ⟨g, U', S', A⟩ y z ny nz e => A y z ny nz fun m => (U'.one S' U S ny m).trans ((e m).trans (U.one S U' S' nz m)), fun A => ⟨h, U, S, A⟩⟩
/-! in a row -/
/-- y's shared marks lie within a cell of another form -/
def Reach (rows : List (List Int × α)) (y z : α) : Prop := y ≠ z ∧ ∃ r ∈ rows, r.2 = z ∧ ∀ m, Shared0 rows y m → m ∈ r.1
def stand (R : α → α → Bool) : Nat → List α → Bool
  | 0, _ => true
  | n + 1, L => if L = [] then true else if (L.filter fun z => L.any fun o => R z o).length = L.length then false else stand R n (L.filter fun z => L.any fun o => R z o)
theorem stand_nil (R : α → α → Bool) (n : Nat) : stand R n [] = true := by
  cases n
  · rfl
  · exact if_pos rfl
theorem stand_fuel (R : α → α → Bool) : ∀ (n m : Nat) (L : List α), L.length ≤ n → L.length ≤ m → stand R n L = stand R m L
  | 0, m, L, h, _ => by
    have : L = [] := List.length_eq_zero_iff.mp (by omega)
    subst this
    rw [stand_nil, stand_nil]
  | n + 1, 0, L, _, h => by
    have : L = [] := List.length_eq_zero_iff.mp (by omega)
    subst this
    rw [stand_nil, stand_nil]
  | n + 1, m + 1, L, h, h' => by
    show (if L = [] then true else if _ then false else _) = (if L = [] then true else if _ then false else _)
    by_cases e : L = []
    · rw [if_pos e, if_pos e]
    · rw [if_neg e, if_neg e]
      have le := List.length_filter_le (fun z => L.any fun o => R z o) L
      by_cases q : (L.filter fun z => L.any fun o => R z o).length = L.length
      · rw [if_pos q, if_pos q]
      · rw [if_neg q, if_neg q]
        exact stand_fuel R n m _ (by omega) (by omega)
theorem any_perm {p : α → Bool} {L L' : List α} (h : L.Perm L') : L.any p = L'.any p := by
  rw [Bool.eq_iff_iff, List.any_eq_true, List.any_eq_true]
  constructor
  · rintro ⟨x, hx, q⟩; exact ⟨x, h.mem_iff.mp hx, q⟩
  · rintro ⟨x, hx, q⟩; exact ⟨x, h.mem_iff.mpr hx, q⟩
theorem stand_perm (R : α → α → Bool) : ∀ (n : Nat) {L L' : List α}, L.Perm L' → stand R n L = stand R n L'
  | 0, _, _, _ => rfl
  | n + 1, L, L', h => by
    have ef : (fun z => L.any fun o => R z o) = fun z => L'.any fun o => R z o := funext fun z => any_perm h
    have hp : (L.filter fun z => L.any fun o => R z o).Perm (L'.filter fun z => L'.any fun o => R z o) := by rw [ef]; exact h.filter _
    show (if L = [] then true else if _ then false else _) = (if L' = [] then true else if _ then false else _)
    rw [hp.length_eq, h.length_eq, stand_perm R n hp]
    by_cases e : L = []
    · subst e
      rw [if_pos rfl, if_pos (List.nil_perm.mp h)]
    · have e' : ¬ L' = [] := fun z => e (by rw [z] at h; exact List.perm_nil.mp h)
      rw [if_neg e, if_neg e']
open Classical in
noncomputable def reachB (rows : List (List Int × α)) (y z : α) : Bool := decide (Reach rows y z)
open Classical in
/-- whether a plain book of the manner makes the rows -/
noncomputable def madeB (man : Str) (rows : List (List Int × α)) : Bool := if man = "row" then stand (reachB rows) (rows.map (·.2)).length (rows.map (·.2)).eraseDups else decide (Holds0 rows)
theorem len_dups : ∀ (n : Nat) (l : List α), l.length ≤ n → l.eraseDups.length ≤ l.length
  | _, [], _ => Nat.le_refl _
  | n + 1, x :: r, h => by
    rw [List.eraseDups_cons, List.length_cons, List.length_cons]
    have le := List.length_filter_le (fun b => !b == x) r
    have := len_dups n (r.filter fun b => !b == x) (by simp only [List.length_cons] at h; omega)
    omega
theorem nodup_dups : ∀ (n : Nat) (l : List α), l.length ≤ n → l.eraseDups.Nodup
  | _, [], _ => List.nodup_nil
  | n + 1, x :: r, h => by
    rw [List.eraseDups_cons]
    have le := List.length_filter_le (fun b => !b == x) r
    refine List.nodup_cons.mpr ⟨fun hx => ?_, nodup_dups n _ (by simp only [List.length_cons] at h; omega)⟩
    have := List.mem_eraseDups.mp hx
    have := (List.mem_filter.mp this).2
    simp at this
theorem made_row {rows : List (List Int × α)} {F : List α} (nd : F.Nodup) (mem : ∀ z, z ∈ F ↔ Named rows z) {n : Nat} (h : F.length ≤ n) : madeB "row" rows = stand (reachB rows) n F := by
  have p : (rows.map (·.2)).eraseDups.Perm F := (List.perm_ext_iff_of_nodup (nodup_dups _ _ (Nat.le_refl _)) nd).mpr fun z => by
    rw [List.mem_eraseDups, mem, List.mem_map]
    exact ⟨fun ⟨r, hr, e⟩ => ⟨r, hr, e⟩, fun ⟨r, hr, e⟩ => ⟨r, hr, e⟩⟩
  unfold madeB
  rw [if_pos rfl, stand_perm _ _ p]
  exact stand_fuel _ _ _ _ (by rw [← p.length_eq]; exact len_dups _ _ (Nat.le_refl _)) h
end
/-! ### marks as bits -/
def maskN (ms : List Int) : Nat := (ms.map fun m => 2 ^ m.toNat).sum
/-- the mark m is in the mask x -/
def hasB (x : Nat) (m : Int) : Prop := 0 ≤ m ∧ x.testBit m.toNat = true
theorem mask_lt : ∀ {n : Nat} {ms : List Int}, ms.Pairwise (· < ·) → (∀ m ∈ ms, 0 ≤ m ∧ m < n) → maskN ms < 2 ^ n := by
  intro n ms
  revert n
  refine snoc_ind (M := fun (ms : List Int) => ∀ {n : Nat}, ms.Pairwise (· < ·) → (∀ m ∈ ms, 0 ≤ m ∧ m < n) → maskN ms < 2 ^ n) (fun _ _ => Nat.two_pow_pos _) (fun l x ih n up b => ?_) ms
  have bx := b x (by simp)
  obtain ⟨u1, _, u2⟩ := List.pairwise_append.mp up
  have := ih (n := x.toNat) u1 fun m hm => ⟨(b m (by simp [hm])).1, by have := u2 m hm x (by simp); omega⟩
  have e : maskN (l ++ [x]) = maskN l + 2 ^ x.toNat := by unfold maskN; rw [List.map_append, List.sum_append]; simp
  rw [e]
  have : 2 ^ x.toNat + 2 ^ x.toNat ≤ 2 ^ n := by
    rw [show 2 ^ x.toNat + 2 ^ x.toNat = 2 ^ (x.toNat + 1) by rw [Nat.pow_succ]; omega]
    exact Nat.pow_le_pow_right (by decide) (by omega)
  omega
theorem has_mask : ∀ {ms : List Int}, ms.Pairwise (· < ·) → (∀ m ∈ ms, 0 ≤ m) → ∀ m, hasB (maskN ms) m ↔ m ∈ ms := by
  intro ms
  refine snoc_ind (M := fun (ms : List Int) => ms.Pairwise (· < ·) → (∀ m ∈ ms, 0 ≤ m) → ∀ m, hasB (maskN ms) m ↔ m ∈ ms) (fun _ _ m => by simp [hasB, maskN]) (fun l x ih up b m => ?_) ms
  have bx := b x (by simp)
  obtain ⟨u1, _, u2⟩ := List.pairwise_append.mp up
  have ih := ih u1 (fun k hk => b k (by simp [hk])) m
  have lt : maskN l < 2 ^ x.toNat := mask_lt (n := x.toNat) u1 fun k hk => ⟨b k (by simp [hk]), by have := u2 k hk x (by simp); omega⟩
  have e : maskN (l ++ [x]) = 2 ^ x.toNat * 1 + maskN l := by unfold maskN; rw [List.map_append, List.sum_append]; simp; omega
  unfold hasB at ih ⊢
  rw [e, Nat.testBit_two_pow_mul_add _ lt, List.mem_append, List.mem_singleton, ← ih]
  by_cases c : m.toNat < x.toNat
  · rw [if_pos c]
    exact ⟨fun h => .inl h, fun h => h.elim id fun q => by omega⟩
  · rw [if_neg c]
    constructor
    · rintro ⟨h0, h1⟩
      have : m.toNat - x.toNat = 0 := by
        cases q : m.toNat - x.toNat with
        | zero => rfl
        | succ k => rw [q, Nat.testBit_succ] at h1; simp at h1
      exact .inr (by omega)
    · rintro (⟨h0, h1⟩ | q)
      · have le := Nat.ge_two_pow_of_testBit h1
        have : 2 ^ x.toNat ≤ 2 ^ m.toNat := Nat.pow_le_pow_right (by decide) (by omega)
        omega
      · subst q
        rw [Nat.sub_self]
        exact ⟨bx, rfl⟩
theorem has_and {x y : Nat} {m : Int} : hasB (x &&& y) m ↔ hasB x m ∧ hasB y m := by
  unfold hasB
  rw [Nat.testBit_and, Bool.and_eq_true]
  exact ⟨fun ⟨a, b, c⟩ => ⟨⟨a, b⟩, a, c⟩, fun ⟨⟨a, b⟩, _, c⟩ => ⟨a, b, c⟩⟩
theorem has_ext {x y : Nat} (h : ∀ m, hasB x m ↔ hasB y m) : x = y := by
  refine Nat.eq_of_testBit_eq fun i => ?_
  have q := h (i : Int)
  unfold hasB at q
  rw [Int.toNat_natCast] at q
  rw [Bool.eq_iff_iff]
  exact ⟨fun z => (q.mp ⟨by omega, z⟩).2, fun z => (q.mpr ⟨by omega, z⟩).2⟩
theorem and_sub {x y : Nat} : x &&& y = x ↔ ∀ m, hasB x m → hasB y m := by
  constructor
  · intro e m h
    rw [← e] at h
    exact (has_and.mp h).2
  · intro h
    exact has_ext fun m => has_and.trans ⟨fun q => q.1, fun q => ⟨q, h m q⟩⟩
/-- left & ~right, as an int -/
theorem less_bits (x y : Nat) : Builtin.bitAnd (x : Int) (Builtin.bitNot (y : Int)) = (x : Int) - ((x &&& y : Nat) : Int) := by rw [PyProof.Rows.bitAnd_not, PySem.W.os_band]
theorem less_zero (x y : Nat) : Builtin.bitAnd (x : Int) (Builtin.bitNot (y : Int)) = 0 ↔ x &&& y = x := by
  rw [less_bits]
  have : x &&& y ≤ x := Nat.and_le_left
  omega
end Xci

namespace Xci
open PySem PySem.Spec PyProof.Rows L2
/-! len(set(a list of tuples of ints)), len(set(a list of ints)), set(a list of texts), list(d.values()) -/
/-- len(set(x)), x a list of tuples of ints -/
def tLenSetL (K : PySem.W.Frag) (ta : TE) : TE := fun σ H Q => ta σ H fun x H1 => ∃ (t : Addr) (ks : List (Addr × List Int)), x = .ref t ∧ SqL K H1 t (ks.map fun p => .ref p.1) ∧ (∀ p ∈ ks, SqT K H1 p.1 (p.2.map V.int)) ∧ ks.length < 64 ∧
  ∀ n : Nat, n ≤ ks.length → (n = ks.length ↔ (ks.map (·.2)).Nodup) → Q (.int n) H1
theorem pe_lenSetL {X : Cx} {a : Expr} {ta : TE} {p p2 q pos : Pos} (hc : X.calm = true) (hu : X.A.units + 64 < cLine) (hg : Gl X "len") (hm : X.mg "len" = none) (hg2 : Gl X "set") (hm2 : X.mg "set" = none) (ha : PE X a ta)
    (na : starEach [a] X.env = (false, eval a X.env) :: starEach [] X.env := by rfl) : PE X (.Call (.Name "len" p) [.Call (.Name "set" p2) [a] [] q] [] pos) (tLenSetL X.K ta) where
  run pins s σ H Q I h := by
    refine Call_ (ld_blt I hg hm PySem.boot_len (callWith_builtin1 (args_cons (Call_ (ld_blt I hg2 hm2 boot_set (callWith_type1 (args_cons (thn (ha.run pins s σ H _ I h) fun v s1 ⟨x, H1, I1, rv, t, ks, one, sq, each, few, k⟩ => args_nil ?_) na) na rfl))) rfl) rfl rfl))
    subst one
    cases rv
    obtain ⟨its, vals, lst, _⟩ := I1.list sq
    refine call_set_tups (P := X.prog) (w := X.w) ks (I1.ok.hd hc) lst.isList (by simpa using refs_of_vals vals) (fun p hp => I1.isT (each p hp)) few (by omega) fun h' tk L es ep tb R got kept => args_nil ?_
    have members : ∀ x, x ∈ L.map (·.2) ↔ x ∈ ks.map (·.2) := fun x => by
      constructor
      · intro z
        obtain ⟨y, hy, ey⟩ := List.mem_map.mp z
        exact ey ▸ List.mem_map_of_mem (List.mem_of_mem_take (got.sub y hy))
      · intro z
        obtain ⟨y, hy, ey⟩ := List.mem_map.mp z
        exact ey ▸ got.all y (by rw [List.take_length]; exact hy)
    obtain ⟨o, at0, exact_, dat⟩ := R.ob
    have n1 := count_unlike R.nd members
    rw [List.length_map, List.length_map] at n1
    have n2 : es.size = L.length := R.size (s := ⟨h', s1.gens, s1.drawn, tk, s1.os⟩)
    have J : Inv X pins σ H1 { s1 with heap := h', toks := tk } := I1.kept kept
    exact call_len_set at0 exact_ dat (R.fits (s := ⟨h', s1.gens, s1.drawn, tk, s1.os⟩)) (by rw [n2]; omega) ⟨.int L.length, H1, J.tok _, ⟨_, by rw [n2]⟩, k _ n1.1 n1.2⟩
/-- the ints met first: each once -/
theorem met_facts (val : Nat → Int) : ∀ i, (firstMet val i).Nodup ∧ ∀ z, z ∈ firstMet val i ↔ z ∈ (List.range i).map val
  | 0 => ⟨List.nodup_nil, fun z => Iff.rfl⟩
  | i + 1 => by
    obtain ⟨nd, mem⟩ := met_facts val i
    have e : (List.range (i + 1)).map val = (List.range i).map val ++ [val i] := by rw [List.range_succ, List.map_append]; rfl
    rw [firstMet_succ, e]
    show (if (firstMet val i).any (· == val i) then firstMet val i else firstMet val i ++ [val i]).Nodup ∧ ∀ z, z ∈ (if (firstMet val i).any (· == val i) then firstMet val i else firstMet val i ++ [val i]) ↔ _
    by_cases h : val i ∈ firstMet val i
    · have has : ((firstMet val i).any fun x => x == val i) = true := List.any_eq_true.mpr ⟨_, h, beq_self_eq_true _⟩
      rw [if_pos has]
      refine ⟨nd, fun z => ?_⟩
      rw [List.mem_append, mem z, List.mem_singleton]
      exact ⟨.inl, fun q => q.elim id fun q => by rw [q]; exact (mem _).mp h⟩
    · rw [if_neg fun q => by
        obtain ⟨x, hx, ex⟩ := List.any_eq_true.mp q
        rw [eq_of_beq ex] at hx
        exact h hx]
      refine ⟨List.nodup_append.mpr ⟨nd, List.pairwise_singleton .., fun a ha b hb ab => ?_⟩, fun z => ?_⟩
      · rw [List.mem_singleton.mp hb] at ab
        exact h (ab ▸ ha)
      · rw [List.mem_append, List.mem_append, mem z]
theorem range_at (ns : List Int) : (List.range ns.length).map (fun i => ns.getD i 0) = ns := by
  refine List.ext_getElem? fun i => ?_
  rw [List.getElem?_map]
  by_cases h : i < ns.length
  · rw [List.getElem?_range h, List.getElem?_eq_getElem h]
    show some (ns.getD i 0) = _
    rw [List.getD_eq_getElem?_getD, List.getElem?_eq_getElem h]; rfl
  · rw [List.getElem?_eq_none (by rw [List.length_range]; omega), List.getElem?_eq_none (by omega)]; rfl
/-- len(set(x)), x a list of ints -/
def tLenSetN (K : PySem.W.Frag) (ta : TE) : TE := fun σ H Q => ta σ H fun x H1 => ∃ (l : Addr) (ns : List Int), x = .ref l ∧ SqL K H1 l (ns.map V.int) ∧ ns.length ≤ 4000 ∧ ∀ n : Nat, n ≤ ns.length → (n = ns.length ↔ ns.Nodup) → Q (.int n) H1
theorem pe_lenSetN {X : Cx} {a : Expr} {ta : TE} {p p2 q pos : Pos} (hc : X.calm = true) (hg : Gl X "len") (hm : X.mg "len" = none) (hg2 : Gl X "set") (hm2 : X.mg "set" = none) (ha : PE X a ta)
    (na : starEach [a] X.env = (false, eval a X.env) :: starEach [] X.env := by rfl) : PE X (.Call (.Name "len" p) [.Call (.Name "set" p2) [a] [] q] [] pos) (tLenSetN X.K ta) where
  run pins s σ H Q I h := by
    refine Call_ (ld_blt I hg hm PySem.boot_len (callWith_builtin1 (args_cons (Call_ (ld_blt I hg2 hm2 boot_set (callWith_type1 (args_cons (thn (ha.run pins s σ H _ I h) fun v s1 ⟨x, H1, I1, rv, l, ns, one, sq, few, k⟩ => args_nil ?_) na) na rfl))) rfl) rfl rfl))
    subst one
    cases rv
    obtain ⟨its, vals, lst, _⟩ := I1.list sq
    have size : its.toArray.size = ns.length := by rw [List.size_toArray, ← vals.length, List.length_map]
    refine call_set_list (I1.ok.hd hc) lst.isList (by simpa using vals.ints) (by rw [size]; unfold scanBound; omega) fun h' tk R kept => args_nil ?_
    have fs := met_facts (fun i => ns.getD i 0) ns.length
    rw [size] at R
    rw [range_at] at fs
    obtain ⟨o, es, ep, t, at0, exact_, dat, _, _, _, fits, count⟩ := R
    have n1 := count_unlike fs.1 fs.2
    have J : Inv X pins σ H1 { s1 with heap := h', toks := tk } := I1.kept fun b o e => kept b o (Heap.lt_size e) e
    exact call_len_set at0 exact_ dat fits (by rw [count]; omega) ⟨.int (firstMet (fun i => ns.getD i 0) ns.length).length, H1, J.tok _, ⟨_, by rw [count]⟩, k _ n1.1 n1.2⟩
/-- list(d.values()) -/
def tListVals (td : TE) : TE := fun σ H Q => td σ H fun x H1 => ∃ d kvs, x = .ref d ∧ H1 d = some (.dK kvs) ∧ ∀ q, H1 q = none → Q (.ref q) (upd H1 q (.lst (kvs.map (·.2))))
theorem kv_snd {kvs : List (Key × V)} {vs : List (Key × Value)} (r : KV kvs vs) {j : Nat} {x : V} {k : Key} {v : Value} (h1 : (kvs.map (·.2))[j]? = some x) (h2 : vs[j]? = some (k, v)) : RelV x v := by
  rw [List.getElem?_map] at h1
  obtain ⟨⟨k', x'⟩, e, rfl⟩ := Option.map_eq_some_iff.mp h1
  obtain ⟨u, hu, ru⟩ := kv_get r e
  rw [h2] at hu
  cases hu
  exact ru
theorem pe_listVals {X : Cx} {e : Expr} {te : TE} {p pos apos cpos : Pos} (hc : X.calm = true) (hg : Gl X "list") (hm : X.mg "list" = none) (he : PE X e te) (hbase : attributeBase e "values" X.env (eval e X.env) = eval e X.env := by rfl) (hline : (apos.endLine == cpos.line) = true := by rfl)
    (hs : starEach [.Call (.Attribute e "values" apos) [] [] cpos] X.env = (false, eval (.Call (.Attribute e "values" apos) [] [] cpos) X.env) :: starEach [] X.env := by rfl) :
    PE X (.Call (.Name "list" p) [.Call (.Attribute e "values" apos) [] [] cpos] [] pos) (tListVals te) where
  run pins s σ H Q I h := by
    have view : wpAny (model X.prog X.w) X.A (eval (.Call (.Attribute e "values" apos) [] [] cpos) X.env) (fun u s1 => ∃ d kvs H1 s0, u = .ref s0.heap.objs.size ∧ s1 = { s0 with heap := s0.heap.push { cls := .type "dict_values", data := .fields #[.ref d] } } ∧ Inv X pins σ H1 s0 ∧ H1 d = some (.dK kvs) ∧ ∀ q, H1 q = none → Q (.ref q) (upd H1 q (.lst (kvs.map (·.2))))) X.xe s := by
      refine wpAny_Call_method (T := "dict") (id := "dict.values") hbase rfl hline F.plainAttrs_dict F.slot_dict_values F.type_dict_values (thn (he.run pins s σ H _ I h) fun u s1 ⟨x, H1, I1, rx, d, kvs, ex, hd, q⟩ => ?_)
      subst ex
      obtain rfl : u = Value.ref d := rx
      obtain ⟨_, low, vs, _, isd⟩ := (show ObjOk X.prog X.w H1 s1.heap d (.dK kvs) from I1.hok d _ hd)
      refine ⟨isd.typeIs, isd.mapOf.noDict, ?_⟩
      exact method_meetsIn F.slot_dict_values F.entry_dict_values rfl (PySem.evalArgs_none ⟨rfl, isd.typeIs, F.args_dict_values_1 _, _, meets_dict_values (mixKind X.prog X.w) d low, ⟨vs, isd⟩, ⟨d, kvs, H1, s1, rfl, rfl, I1, hd, q⟩⟩)
    refine Call_ (ld_blt I hg hm (show bootBuiltins "list" = some (.type "list") by decide +kernel) (callWith_type1 (args_cons (thn view fun u s1 ⟨d, kvs, H1, s0, eu, es, I0, hd, q⟩ => args_nil ?_) hs) hs rfl))
    subst eu
    subst es
    obtain ⟨small, low, vs, kv, isd⟩ := (show ObjOk X.prog X.w H1 s0.heap d (.dK kvs) from I0.hok d _ hd)
    obtain ⟨ep, at0⟩ := isd.dictAt
    have I1 : Inv X pins σ H1 { s0 with heap := s0.heap.push { cls := .type "dict_values", data := .fields #[.ref d] } } := I0.kept (t' := s0.toks) fun b o => Heap.get?_push_of_some _
    have len : kvs.length = vs.length := Paired.length kv
    refine PySem.W.kdl_call (PySem.W.kdl_values (knd := mixKind X.prog X.w) (kvs := vs) (ep := ep)) (I1.ok.hd hc) ⟨⟨_, Heap.get?_push_size _ rfl, rfl, rfl⟩, at0.push _⟩ (by rw [← len]; exact small) fun h' tk acc c kept made got => ?_
    have size : acc.toList.length = acc.size := Array.length_toList
    refine ⟨.ref _, upd H1 _ (.lst (kvs.map (·.2))), I1.laid kept (Nat.le_refl _) (show ObjOk X.prog X.w _ _ _ (.lst (kvs.map (·.2))) from ⟨by rw [List.length_map]; exact small, acc.toList, c, vals_of_at (by rw [List.length_map, size, got.1, len]) fun j x v h1 h2 => ?_, by rw [Array.toArray_toList]; exact made⟩), rfl, q _ (I1.hok.fresh (Nat.le_refl _))⟩
    obtain ⟨k, hk⟩ := got.2 j v (by rw [← Array.getElem?_toList]; exact h2)
    exact kv_snd kv h1 hk
end Xci

namespace Xci
open PySem L2
/-! ### tables that a plain book makes: the program's dicts of bits -/
/-- the told cells with their forms -/
def rowsOf (cells : List (List Int)) (fs : List (Option Str)) : List (List Int × Str) := (cells.zip fs).filterMap fun p => p.2.map fun z => (p.1, z)
theorem rows_mem {cells : List (List Int)} {fs : List (Option Str)} {r : List Int × Str} : r ∈ rowsOf cells fs ↔ ∃ i : Nat, cells[i]? = some r.1 ∧ fs[i]? = some (some r.2) := by
  unfold rowsOf
  rw [List.mem_filterMap]
  constructor
  · rintro ⟨⟨c, f⟩, hp, e⟩
    obtain ⟨i, hi⟩ := List.mem_iff_getElem?.mp hp
    rw [List.getElem?_zip_eq_some] at hi
    cases f with
    | none => cases e
    | some z =>
      cases e
      exact ⟨i, hi⟩
  · rintro ⟨i, h1, h2⟩
    exact ⟨(r.1, some r.2), List.mem_iff_getElem?.mpr ⟨i, by rw [List.getElem?_zip_eq_some]; exact ⟨h1, h2⟩⟩, rfl⟩
theorem rows_take {cells : List (List Int)} {fs : List (Option Str)} {i : Nat} {c : List Int} {f : Option Str} (h1 : cells[i]? = some c) (h2 : fs[i]? = some f) :
    rowsOf (cells.take (i + 1)) (fs.take (i + 1)) = rowsOf (cells.take i) (fs.take i) ++ (match f with | some z => [(c, z)] | none => []) := by
  unfold rowsOf
  have e : (cells.take (i + 1)).zip (fs.take (i + 1)) = (cells.take i).zip (fs.take i) ++ [(c, f)] := by
    have l1 := (List.getElem?_eq_some_iff.mp h1).1
    have l2 := (List.getElem?_eq_some_iff.mp h2).1
    rw [List.take_add_one, List.take_add_one, h1, h2, List.zip_append (by rw [List.length_take, List.length_take]; omega)]
    rfl
  rw [e, List.filterMap_append]
  cases f <;> rfl
theorem rows_none (n : Nat) (cells : List (List Int)) (fs : List (Option Str)) (h1 : cells.length ≤ n) (h2 : fs.length ≤ n) : rowsOf (cells.take n) (fs.take n) = rowsOf cells fs := by
  rw [List.take_of_length_le h1, List.take_of_length_le h2]
/-- a dict from these texts -/
def dkOf (F : List Str) (g : Str → V) : List (Key × V) := F.map fun z => (Sum.inr z, g z)
theorem dk_len (F : List Str) (g : Str → V) : (dkOf F g).length = F.length := List.length_map _
theorem dk_val {F : List Str} {g : Str → V} : ∀ {z : Str}, z ∈ F → valV (dkOf F g) (Sum.inr z) = some (g z) := by
  induction F with
  | nil => intro z h; cases h
  | cons y r ih =>
    intro z h
    unfold dkOf
    rw [List.map_cons]
    by_cases e : y = z
    · subst e
      exact valV_pos rfl
    · rw [valV_neg (fun q => e (Sum.inr.inj q))]
      rcases List.mem_cons.mp h with q | q
      · exact absurd q.symm e
      · exact ih q
theorem dk_none {F : List Str} {g : Str → V} : ∀ {z : Str}, z ∉ F → valV (dkOf F g) (Sum.inr z) = none := by
  induction F with
  | nil => intro z _; rfl
  | cons y r ih =>
    intro z h
    unfold dkOf
    rw [List.map_cons, valV_neg (fun q => h (by rw [← Sum.inr.inj q]; exact List.mem_cons_self))]
    exact ih fun q => h (List.mem_cons_of_mem _ q)
def setG (g : Str → V) (z : Str) (v : V) (y : Str) : V := if y = z then v else g y
theorem dk_put {F : List Str} {g : Str → V} {z : Str} {v : V} (h : z ∈ F) : putK (dkOf F g) (Sum.inr z) v = dkOf F (setG g z v) := by
  have any : ((dkOf F g).any fun kv => decide (kv.1 = Sum.inr z)) = true := List.any_eq_true.mpr ⟨(Sum.inr z, g z), List.mem_map.mpr ⟨z, h, rfl⟩, decide_eq_true rfl⟩
  unfold putK
  rw [if_pos any]
  unfold dkOf
  rw [List.map_map]
  refine List.map_congr_left fun y _ => ?_
  show (if (Sum.inr y : Key) = Sum.inr z then (Sum.inr y, v) else (Sum.inr y, g y)) = (Sum.inr y, setG g z v y)
  unfold setG
  by_cases e : y = z
  · rw [if_pos (by rw [e]), if_pos e]
  · rw [if_neg (fun q => e (Sum.inr.inj q)), if_neg e]
theorem dk_new {F : List Str} {g : Str → V} {z : Str} {v : V} (h : z ∉ F) : putK (dkOf F g) (Sum.inr z) v = dkOf (F ++ [z]) (setG g z v) := by
  rw [putK_new v (dk_none h)]
  unfold dkOf
  rw [List.map_append]
  have e1 : F.map (fun y => ((Sum.inr y : Key), g y)) = F.map fun y => (Sum.inr y, setG g z v y) := List.map_congr_left fun y hy => by
    unfold setG
    rw [if_neg fun e => h (by rw [← e]; exact hy)]
  have e2 : [((Sum.inr z : Key), v)] = [z].map fun y => (Sum.inr y, setG g z v y) := by
    unfold setG
    rw [List.map_cons, if_pos rfl]; rfl
  rw [e1, e2]
/-- z among F, put behind where it isn't -/
def withZ (F : List Str) (z : Str) : List Str := if z ∈ F then F else F ++ [z]
theorem dk_with {F : List Str} {g : Str → V} {z : Str} {v : V} : putK (dkOf F g) (Sum.inr z) v = dkOf (withZ F z) (setG g z v) := by
  unfold withZ
  by_cases h : z ∈ F
  · rw [if_pos h, dk_put h]
  · rw [if_neg h, dk_new h]
theorem dk_get {H : Hp} {d : Addr} {F : List Str} {g : Str → V} {z : Str} (e : H d = some (.dK (dkOf F g))) (h : z ∈ F) : DGet H d (.str z) (some (g z)) := by
  have := DGet.k (k := Sum.inr z) e
  rwa [dk_val h] at this
theorem dk_congr {F : List Str} {g g' : Str → V} (h : ∀ z ∈ F, g z = g' z) : dkOf F g = dkOf F g' := List.map_congr_left fun z hz => by rw [h z hz]
theorem dk_snd (F : List Str) (g : Str → V) : (dkOf F g).map (·.2) = F.map g := by unfold dkOf; rw [List.map_map]; rfl
theorem dk_fst (F : List Str) (g : Str → V) : ((dkOf F g).map fun kv => kV kv.1) = F.map V.str := by unfold dkOf; rw [List.map_map]; rfl
theorem with_nodup {F : List Str} {z : Str} (h : F.Nodup) : (withZ F z).Nodup := by
  unfold withZ
  split
  · exact h
  · rename_i q
    exact List.nodup_append.mpr ⟨h, List.pairwise_singleton .., fun a ha b hb e => by rw [List.mem_singleton.mp hb] at e; exact q (e ▸ ha)⟩
theorem with_mem {F : List Str} {z y : Str} : y ∈ withZ F z ↔ y ∈ F ∨ y = z := by
  unfold withZ
  split
  · rename_i q
    exact ⟨.inl, fun h => h.elim id fun e => e ▸ q⟩
  · rw [List.mem_append, List.mem_singleton]
theorem with_len (F : List Str) (z : Str) : (withZ F z).length ≤ F.length + 1 := by
  unfold withZ
  split
  · omega
  · rw [List.length_append]; exact Nat.le_refl _
/-- the masks of cells, as values -/
def bitsV (cells : List (List Int)) : List V := (cells.map fun c => ((maskN c : Nat) : Int)).map V.int
theorem bits_at {cells : List (List Int)} {i : Nat} {x : V} (h : (bitsV cells)[i]? = some x) : ∃ c, cells[i]? = some c ∧ x = .int (maskN c : Nat) := by
  unfold bitsV at h
  rw [List.map_map, List.getElem?_map] at h
  obtain ⟨c, e, rfl⟩ := Option.map_eq_some_iff.mp h
  exact ⟨c, e, rfl⟩
theorem bitsV_len (cells : List (List Int)) : (bitsV cells).length = cells.length := by unfold bitsV; rw [List.length_map, List.length_map]
abbrev maskV (x : Str → Nat) (z : Str) : V := .int (x z : Nat)
/-- the names that stand in the rows -/
structure Names (rows : List (List Int × Str)) (F : List Str) : Prop where
  nd : F.Nodup
  mem : ∀ z, z ∈ F ↔ Named rows z
theorem Names.len {cells : List (List Int)} {fs : List (Option Str)} {F : List Str} (N : Names (rowsOf cells fs) F) : F.length ≤ cells.length := by
  have h : F.length ≤ ((rowsOf cells fs).map (·.2)).length := List.Nodup.length_le_of_subset N.nd fun z hz => by
    obtain ⟨r, hr, e⟩ := (N.mem z).mp hz
    exact List.mem_map.mpr ⟨r, hr, e⟩
  rw [List.length_map] at h
  have h2 : (rowsOf cells fs).length ≤ (cells.zip fs).length := List.length_filterMap_le _ _
  rw [List.length_zip] at h2
  omega
/-- masks that hold just the shared marks -/
def AreShared (rows : List (List Int × Str)) (F : List Str) (x : Str → Nat) : Prop := ∀ z ∈ F, ∀ m, hasB (x z) m ↔ Shared0 rows z m
def spBits : Sp := fun vs H Q _ => ∃ (v : V) (ms : List Int), vs = [v] ∧ Xci.Mk H v ms ∧ MarksOk 6 ms ∧ ∀ H', Same H H' → Q (.int (maskN ms : Nat)) H'
def spCellBits (CF : Addr) : Sp := fun vs H Q _ => ∃ (fam : Addr) (many : Int) (pc : Addr) (cy : List V) (cells : List (List Int)), vs = [.ref fam] ∧ FamAt CF H fam many pc ∧ H pc = some (.tup cy) ∧ Mks H cy cells ∧ (∀ c ∈ cells, MarksOk 6 c) ∧ cells.length ≤ 64 ∧
  ∀ (q : Addr) (H' : Hp), H' q = some (.lst (bitsV cells)) → Same H H' → Q (.ref q) H'
/-- forms at p: a tuple, or a list -/
def FsAt (w : Bool) (H : Hp) (p : Addr) (fs : List (Option Str)) : Prop := H p = some (if w = true then .lst (fs.map formV) else .tup (fs.map formV))
theorem FsAt.same {w : Bool} {H H' : Hp} {p : Addr} {fs : List (Option Str)} (h : FsAt w H p fs) (s : Same H H') : FsAt w H' p fs := s _ _ h
/-- masks of cells at q, forms at p -/
structure MskAt (w : Bool) (H : Hp) (q p : Addr) (cells : List (List Int)) (fs : List (Option Str)) : Prop where
  q : H q = some (.lst (bitsV cells))
  p : FsAt w H p fs
  len : cells.length = fs.length
  ok : ∀ c ∈ cells, MarksOk 6 c
  few : cells.length ≤ 63
theorem MskAt.same {w : Bool} {H H' : Hp} {q p : Addr} {cells : List (List Int)} {fs : List (Option Str)} (h : MskAt w H q p cells fs) (s : Same H H') : MskAt w H' q p cells fs := ⟨s _ _ h.q, h.p.same s, h.len, h.ok, h.few⟩
def spCommonBits (w : Bool) : Sp := fun vs H Q _ => ∃ (q p : Addr) (cells : List (List Int)) (fs : List (Option Str)), vs = [.ref q, .ref p] ∧ MskAt w H q p cells fs ∧
  ∀ (d : Addr) (F : List Str) (x : Str → Nat) (H' : Hp), H' d = some (.dK (dkOf F (maskV x))) → H d = none → Names (rowsOf cells fs) F → AreShared (rowsOf cells fs) F x → Same H H' → Q (.ref d) H'
def spStruck : Sp := fun vs H Q _ => ∃ (d : Addr) (F : List Str) (x : Str → Nat) (z o : Str) (c : List Int), vs = [.ref d, .str z, .str o, .int (maskN c : Nat)] ∧ H d = some (.dK (dkOf F (maskV x))) ∧ z ∈ F ∧ o ∈ F ∧ Q (.bl (decide (x z &&& maskN c = x z) && decide (x z &&& x o ≠ x z))) H
/-- where strikes end -/
structure Ended (rows : List (List Int × Str)) (F : List Str) (x : Str → Nat) : Prop where
  un : Under rows fun z => hasB (x z)
  st : Still rows fun z => hasB (x z)
def spShrink (w : Bool) : Sp := fun vs H Q _ => ∃ (q p : Addr) (cells : List (List Int)) (fs : List (Option Str)), vs = [.ref q, .ref p] ∧ MskAt w H q p cells fs ∧
  ∀ (t d l : Addr) (F : List Str) (x : Str → Nat) (H' : Hp), H' t = some (.tup [.ref d, .ref l]) → H' d = some (.dK (dkOf F (maskV x))) → Names (rowsOf cells fs) F → Ended (rowsOf cells fs) F x → Same H H' → Q (.ref t) H'
/-- pairs of a mask and a form, as told ones are listed -/
abbrev Told (H : Hp) (ys : List V) (rows : List (List Int × Str)) : Prop := Paired (fun v (r : List Int × Str) => Tup H v [.int (maskN r.1 : Nat), .str r.2]) ys rows
theorem Told.keep {H H' : Hp} {ys : List V} {rows : List (List Int × Str)} (f : TFr H H') (t : Told H ys rows) : Told H' ys rows := Paired.mapP t fun _ _ h => Tup.keep f h
def spReachesOne : Sp := fun vs H Q _ => ∃ (z : Str) (n : Nat) (l : Addr) (ys : List V) (rows : List (List Int × Str)), vs = [.str z, .int (n : Nat), .ref l] ∧ H l = some (.lst ys) ∧ Told H ys rows ∧ ys.length ≤ 1000 ∧
  ∀ H', Same H H' → Q (.bl (rows.any fun r => decide (n &&& maskN r.1 = n) && decide (r.2 ≠ z))) H'
def spStand (w : Bool) : Sp := fun vs H Q _ => ∃ (q p : Addr) (cells : List (List Int)) (fs : List (Option Str)), vs = [.ref q, .ref p] ∧ MskAt w H q p cells fs ∧ ∀ H', Same H H' → Q (.bl (madeB "row" (rowsOf cells fs))) H'
def Man2 (man : Str) : Prop := man = "row" ∨ man = "within"
def spMadeSo (w : Bool) : Sp := fun vs H Q _ => ∃ (q p : Addr) (cells : List (List Int)) (fs : List (Option Str)) (man : Str), vs = [.ref q, .ref p, .str man] ∧ MskAt w H q p cells fs ∧ Man2 man ∧ ∀ H', Same H H' → Q (.bl (madeB man (rowsOf cells fs))) H'
def spNeedManner : Sp := fun vs H Q _ => ∃ man : Str, vs = [.str man] ∧ Man2 man ∧ ∀ H', Same H H' → Q .non H'
def spIsMade (CF C : Addr) : Sp := fun vs H Q _ => ∃ (t fam pf : Addr) (fs : List (Option Str)) (many : Int) (pc : Addr) (cy : List V) (cells : List (List Int)) (man : Str), vs = [.ref t, .str man] ∧ TabAt C H t fam pf ∧ H pf = some (.tup (fs.map formV)) ∧ FamAt CF H fam many pc ∧ H pc = some (.tup cy) ∧ Mks H cy cells ∧
  (∀ c ∈ cells, MarksOk 6 c) ∧ cells.length ≤ 24 ∧ cells.length = fs.length ∧ Man2 man ∧ ∀ H', Same H H' → Q (.bl (madeB man (rowsOf cells fs))) H'
end Xci

namespace Xci
open PySem L2
/-! ### tables that a plain book makes: a law's own walk, over tuples of marks -/
/-- the cells of a form -/
def cellsOf (rows : List (List Int × Str)) (z : Str) : List (List Int) := (rows.filter fun r => decide (r.2 = z)).map (·.1)
theorem cellsOf_mem {rows : List (List Int × Str)} {z : Str} {c : List Int} : c ∈ cellsOf rows z ↔ (c, z) ∈ rows := by
  unfold cellsOf
  rw [List.mem_map]
  constructor
  · rintro ⟨r, hr, rfl⟩
    obtain ⟨h1, h2⟩ := List.mem_filter.mp hr
    have := of_decide_eq_true h2
    subst this
    exact h1
  · intro h
    exact ⟨(c, z), List.mem_filter.mpr ⟨h, decide_eq_true rfl⟩, rfl⟩
theorem cellsOf_snoc (rows : List (List Int × Str)) (c : List Int) (z y : Str) : cellsOf (rows ++ [(c, z)]) y = cellsOf rows y ++ (if z = y then [c] else []) := by
  unfold cellsOf
  rw [List.filter_append, List.map_append, List.filter_cons, List.filter_nil]
  by_cases e : z = y
  · rw [if_pos (decide_eq_true e), if_pos e]; rfl
  · rw [if_neg (by rw [decide_eq_false e]; exact Bool.false_ne_true), if_neg e]; rfl
theorem cellsOf_len (rows : List (List Int × Str)) (z : Str) : (cellsOf rows z).length ≤ rows.length := by
  unfold cellsOf
  rw [List.length_map]
  exact List.length_filter_le _ _
theorem shared0_cells {rows : List (List Int × Str)} {z : Str} {m : Int} : Shared0 rows z m ↔ ∀ c ∈ cellsOf rows z, m ∈ c := by
  constructor
  · intro h c hc
    exact h (c, z) (cellsOf_mem.mp hc) rfl
  · rintro h r hr rfl
    exact h r.1 (cellsOf_mem.mpr hr)
abbrev refV (g : Str → Addr) (z : Str) : V := .ref (g z)
/-- the dict from the forms to the lists of their cells -/
structure Groups (H : Hp) (d : Addr) (rows : List (List Int × Str)) (F : List Str) (g : Str → Addr) : Prop where
  at_ : H d = some (.dK (dkOf F (refV g)))
  names : Names rows F
  each : ∀ z ∈ F, ∃ ys : List V, H (g z) = some (.lst ys) ∧ Mks H ys (cellsOf rows z)
theorem Groups.same {H H' : Hp} {d : Addr} {rows : List (List Int × Str)} {F : List Str} {g : Str → Addr} (h : Groups H d rows F g) (s : Same H H') : Groups H' d rows F g :=
  ⟨s _ _ h.at_, h.names, fun z hz => let ⟨ys, e, m⟩ := h.each z hz; ⟨ys, s _ _ e, m.keep (TFr.same s)⟩⟩
/-- the dict from the forms to the marks that they have left -/
structure HeldAt (H : Hp) (d : Addr) (F : List Str) (ms : Str → List Int) (g : Str → Addr) : Prop where
  at_ : H d = some (.dK (dkOf F (refV g)))
  each : ∀ z ∈ F, H (g z) = some (.tup ((ms z).map V.int))
def spLawCommon : Sp := fun vs H Q _ => ∃ (l : Addr) (ys : List V) (cs : List (List Int)), vs = [.ref l] ∧ H l = some (.lst ys) ∧ Mks H ys cs ∧ cs ≠ [] ∧ (∀ c ∈ cs, MarksOk 6 c) ∧ cs.length ≤ 64 ∧
  ∀ (p : Addr) (ms : List Int) (H' : Hp), H' p = some (.tup (ms.map V.int)) → MarksOk 6 ms → (∀ m, m ∈ ms ↔ ∀ c ∈ cs, m ∈ c) → Same H H' → Q (.ref p) H'
/-- cells and forms, in tuples -/
structure CfAt (H : Hp) (pc pf : Addr) (cy : List V) (cells : List (List Int)) (fs : List (Option Str)) : Prop where
  c : H pc = some (.tup cy)
  m : Mks H cy cells
  f : H pf = some (.tup (fs.map formV))
  len : cells.length = fs.length
  ok : ∀ c ∈ cells, MarksOk 6 c
  few : cells.length ≤ 63
theorem CfAt.same {H H' : Hp} {pc pf : Addr} {cy : List V} {cells : List (List Int)} {fs : List (Option Str)} (h : CfAt H pc pf cy cells fs) (s : Same H H') : CfAt H' pc pf cy cells fs := ⟨s _ _ h.c, h.m.keep (TFr.same s), s _ _ h.f, h.len, h.ok, h.few⟩
def spLawGroups : Sp := fun vs H Q _ => ∃ (pc pf : Addr) (cy : List V) (cells : List (List Int)) (fs : List (Option Str)), vs = [.ref pc, .ref pf] ∧ CfAt H pc pf cy cells fs ∧
  ∀ (d : Addr) (F : List Str) (g : Str → Addr) (H' : Hp), Groups H' d (rowsOf cells fs) F g → H d = none → Same H H' → Q (.ref d) H'
def spLawRowMade : Sp := fun vs H Q _ => ∃ (pc pf : Addr) (cy : List V) (cells : List (List Int)) (fs : List (Option Str)), vs = [.ref pc, .ref pf] ∧ CfAt H pc pf cy cells fs ∧ ∀ H', Same H H' → Q (.bl (madeB "row" (rowsOf cells fs))) H'
structure EndedL (rows : List (List Int × Str)) (F : List Str) (ms : Str → List Int) : Prop where
  ok : ∀ z ∈ F, MarksOk 6 (ms z)
  un : Under rows fun z m => m ∈ ms z
  st : Still rows fun z m => m ∈ ms z
def spLawShrink : Sp := fun vs H Q _ => ∃ (d : Addr) (rows : List (List Int × Str)) (F : List Str) (g : Str → Addr), vs = [.ref d] ∧ Groups H d rows F g ∧ (∀ r ∈ rows, MarksOk 6 r.1) ∧ rows.length ≤ 63 ∧
  ∀ (e : Addr) (ms : Str → List Int) (k : Str → Addr) (H' : Hp), HeldAt H' e F ms k → EndedL rows F ms → Same H H' → Q (.ref e) H'
def spLawWithinMade : Sp := fun vs H Q _ => ∃ (pc pf : Addr) (cy : List V) (cells : List (List Int)) (fs : List (Option Str)), vs = [.ref pc, .ref pf] ∧ CfAt H pc pf cy cells fs ∧ ∀ H', Same H H' → Q (.bl (madeB "within" (rowsOf cells fs))) H'
def spLawMade : Sp := fun vs H Q _ => ∃ (pc pf : Addr) (cy : List V) (cells : List (List Int)) (fs : List (Option Str)) (man : Str), vs = [.ref pc, .ref pf, .str man] ∧ CfAt H pc pf cy cells fs ∧ Man2 man ∧ ∀ H', Same H H' → Q (.bl (madeB man (rowsOf cells fs))) H'
end Xci

namespace Xci
open PySem PySem.Spec PyProof.Rows L2
/-! ### tables that books make, in any of the four manners -/
theorem ok_imp {P : Program} {w : World} {K : PySem.W.Frag} {mg : Str → Option Value} {base : Heap} {f : Addr} {fd : FuncData} {ps : List Str} {k : Nat} {sp sp' : Sp} (g : FnOk P w K mg base CX0 k f fd ps sp) (h : ∀ vs H Q E, sp' vs H Q E → sp vs H Q E) : FnOk P w K mg base CX0 k f fd ps sp' :=
  ⟨fun vs H Q E q => g.len vs H Q E (h _ _ _ _ q), fun A outer s H args us vs Q E hr he hb hv q => g.run A outer s H args us vs Q E hr he hb hv (h _ _ _ _ q)⟩
theorem ok_both {P : Program} {w : World} {K : PySem.W.Frag} {mg : Str → Option Value} {base : Heap} {f : Addr} {fd : FuncData} {ps : List Str} {k : Nat} {sp sp' : Sp} (g : FnOk P w K mg base CX0 k f fd ps sp) (g' : FnOk P w K mg base CX0 k f fd ps sp') : FnOk P w K mg base CX0 k f fd ps (fun vs H Q E => sp vs H Q E ∨ sp' vs H Q E) :=
  ⟨fun vs H Q E h => h.elim (g.len vs H Q E) (g'.len vs H Q E), fun A outer s H args us vs Q E hr he hb hv hs => hs.elim (fun h => g.run A outer s H args us vs Q E hr he hb hv h) (fun h => g'.run A outer s H args us vs Q E hr he hb hv h)⟩
theorem n_row3 {man : Str} (h : Man man) : man = "row" ∨ (man ≠ "row" ∧ Man3 man) := by
  rcases h with rfl | rfl | rfl | rfl
  · exact .inl rfl
  · exact .inr ⟨by decide +kernel, .inl rfl⟩
  · exact .inr ⟨by decide +kernel, .inr (.inl rfl)⟩
  · exact .inr ⟨by decide +kernel, .inr (.inr rfl)⟩
theorem n_roww : ("row" : Str) ≠ "weights" := by decide +kernel
/-- the number of the entry that speaks at a cell, in any manner -/
def whoN (man : Str) (ws : List Int) (es : List Ent) (ms : List Int) : Option Nat :=
  if man = "row" then (fitN es ms).head? else match lawRes (fitN es ms) (beatA man ws es) with
    | .ent j => some j
    | _ => none
/-- the form that is heard at a cell -/
def heard (man : Str) (ws : List Int) (es : List Ent) (ms : List Int) : Option Str := match whoN man ws es ms with
  | some j => (es[j]?).map (·.2)
  | none => none
def heardAll (man : Str) (ws : List Int) (es : List Ent) (cells : List (List Int)) : List (Option Str) := cells.map (heard man ws es)
def numV : Option Nat → V
  | some j => .int (j : Int)
  | none => .non
theorem who_row (ws : List Int) (es : List Ent) (ms : List Int) : numV (whoN "row" ws es ms) = hd1 (fitN es ms) := by
  unfold whoN
  rw [if_pos rfl]
  cases fitN es ms <;> rfl
theorem who_res {man : Str} (h : man ≠ "row") (ws : List Int) (es : List Ent) (ms : List Int) : numV (whoN man ws es ms) = resV (lawRes (fitN es ms) (beatA man ws es)) := by
  unfold whoN
  rw [if_neg h]
  cases lawRes (fitN es ms) (beatA man ws es) <;> rfl
theorem who_lt {man : Str} {ws : List Int} {es : List Ent} {ms : List Int} {j : Nat} (h : whoN man ws es ms = some j) : j < es.length := by
  unfold whoN at h
  split at h
  · exact fit_lt j (List.mem_of_mem_head? h)
  · rcases lawRes_cases (beatA_ok man ws es) (fit_nd es ms) with ⟨_, r⟩ | ⟨n, hw, r⟩ | ⟨_, _, r⟩
    · rw [r] at h; cases h
    · rw [r] at h
      obtain rfl := Option.some.inj h
      exact fit_lt _ hw.1
    · rw [r] at h; cases h
theorem heard_at {man : Str} {ws : List Int} {es : List Ent} {ms : List Int} {j : Nat} {e : Ent} (h : whoN man ws es ms = some j) (he : es[j]? = some e) : heard man ws es ms = some e.2 := by
  unfold heard
  rw [h]
  show (es[j]?).map (·.2) = _
  rw [he]
  rfl
theorem heard_non {man : Str} {ws : List Int} {es : List Ent} {ms : List Int} (h : whoN man ws es ms = none) : heard man ws es ms = none := by
  unfold heard
  rw [h]
theorem heard_mem {man : Str} {ws : List Int} {es : List Ent} {ms : List Int} {z : Str} (h : heard man ws es ms = some z) : z ∈ es.map (·.2) := by
  unfold heard at h
  split at h
  · rename_i j _
    obtain ⟨e, he, rfl⟩ := Option.map_eq_some_iff.mp h
    exact List.mem_map_of_mem (List.mem_of_getElem? he)
  · cases h
theorem heardAll_mem {man : Str} {ws : List Int} {es : List Ent} {cells : List (List Int)} {z : Str} (h : some z ∈ heardAll man ws es cells) : z ∈ es.map (·.2) := by
  obtain ⟨c, _, e⟩ := List.mem_map.mp h
  exact heard_mem e
theorem heardAll_len (man : Str) (ws : List Int) (es : List Ent) (cells : List (List Int)) : (heardAll man ws es cells).length = cells.length := by unfold heardAll; rw [List.length_map]
theorem heardAll_at {man : Str} {ws : List Int} {es : List Ent} {cells : List (List Int)} {i : Nat} {c : List Int} (h : cells[i]? = some c) : (heardAll man ws es cells)[i]? = some (heard man ws es c) := by
  unfold heardAll
  rw [List.getElem?_map, h]
  rfl
/-- forms out of few words -/
theorem forms_few {n : Nat} {fs : List (Option Str)} {zs : List Str} (len : fs.length = n) (few : n ≤ 24) (ok : ∀ z ∈ zs, WordOk z) (le : zs.length ≤ 12) (all : ∀ z, some z ∈ fs → z ∈ zs) : FormsOk n fs :=
  ⟨len, few, fun z hz => ok z (all z hz), fun us rise => Nat.le_trans (List.Nodup.length_le_of_subset rise.nd fun x hx => all x ((rise.all x).mp hx)) le⟩
theorem words_ok {es : List Ent} (h : ∀ e ∈ es, EntOk e) : ∀ z ∈ es.map (·.2), WordOk z := fun z hz => by
  obtain ⟨e, he, rfl⟩ := List.mem_map.mp hz
  exact (h e he).w
/-- told forms that are due, number by number below i -/
def fits1 (fs due : List (Option Str)) (j : Nat) : Bool := decide (fs.getD j none = none) || decide (fs.getD j none = due.getD j none)
def agree (fs due : List (Option Str)) (i : Nat) : Bool := (List.range i).all (fits1 fs due)
theorem agree_next (fs due : List (Option Str)) (i : Nat) : agree fs due (i + 1) = (agree fs due i && fits1 fs due i) := by
  unfold agree
  rw [List.range_succ, List.all_append]
  simp
theorem agree_no {fs due : List (Option Str)} {i n : Nat} (h : fits1 fs due i = false) (hi : i < n) : agree fs due n = false := by
  cases e : agree fs due n with
  | false => rfl
  | true =>
    have := List.all_eq_true.mp e i (List.mem_range.mpr hi)
    rw [h] at this
    cases this
theorem agree_all {fs due : List (Option Str)} {n : Nat} (h : ∀ j, j < n → fs.getD j none = none ∨ fs.getD j none = due.getD j none) : agree fs due n = true := by
  unfold agree
  refine List.all_eq_true.mpr fun j hj => ?_
  unfold fits1
  rcases h j (List.mem_range.mp hj) with e | e
  · rw [decide_eq_true e, Bool.true_or]
  · rw [decide_eq_true e, Bool.or_true]
theorem fits1_at {fs due : List (Option Str)} {i : Nat} {f d : Option Str} (h : fs[i]? = some f) (k : due[i]? = some d) : fits1 fs due i = (decide (f = none) || decide (f = d)) := by
  unfold fits1
  rw [List.getD_eq_getElem?_getD, List.getD_eq_getElem?_getD, h, k]
  rfl
theorem formV_eq (f g : Option Str) : decide (formV f = formV g) = decide (f = g) := by
  cases f with
  | none => cases g <;> rfl
  | some y =>
    cases g with
    | none => rfl
    | some z =>
      rw [decide_eq_decide]
      exact ⟨fun h => by rw [V.str.inj h], fun h => by rw [Option.some.inj h]⟩
theorem formV_non (f : Option Str) : decide (formV f = V.non) = decide (f = none) := formV_eq f none
theorem forms_scal (f g : Option Str) : scal (formV f) (formV g) = true := by cases f <;> cases g <;> rfl
theorem cutFrom (xs : List V) (k : Nat) : cutV xs (some (k : Int)) none = xs.drop k := by
  unfold cutV
  have e1 : HT.sIx xs.length xs.length none = xs.length := rfl
  rw [e1, HT.sIx_nat]
  by_cases h : k ≤ xs.length
  · rw [Nat.min_eq_left h, List.take_of_length_le (by rw [List.length_drop]; exact Nat.le_refl _)]
  · rw [Nat.min_eq_right (by omega), List.drop_of_length_le (Nat.le_refl _), List.drop_of_length_le (by omega)]
    simp
theorem made_table {CF C x dx fam p pc : Addr} {H : Hp} {many : Int} {ys : List V} {fs : List (Option Str)} {Q : VK} {E : XK} (nx : H x = Option.none) (ndx : H dx = Option.none) (hf : FamAt CF H fam many pc) (hc : H pc = some (.tup ys)) (hp : H p = some (.tup (fs.map formV))) (ok : FormsOk ys.length fs)
    (G : ∀ H', TabAt C H' x fam p → Same H H' → Q .non H') : spTab CF C [.ref x, .ref fam, .ref p] (upd (upd H dx (.own x)) x (.ins C dx [])) Q E := by
  have s3 : Same H (upd (upd H dx (.own x)) x (.ins C dx [])) := fun b o e => by rw [upd_ne (ne_of_none e nx), upd_ne (ne_of_none e ndx)]; exact e
  obtain ⟨df, hf⟩ := hf
  refine ⟨x, dx, fam, many, pc, ys, p, fs, rfl, upd_same, ⟨df, s3 _ _ hf⟩, (ne_of_none hf nx).symm, s3 _ _ hc, s3 _ _ hp, ok, fun H' ht kp => ?_⟩
  exact G H' ht fun b o e => kp b o (s3 b o e) (ne_of_none e nx)
/-- some of the told forms are opened -/
def Less (due gs : List (Option Str)) : Prop := ∀ (j : Nat) (x : Option Str), gs[j]? = some x → x = none ∨ due[j]? = some x
theorem Less.agree {due gs : List (Option Str)} (h : Less due gs) (n : Nat) (hn : n ≤ gs.length) : agree gs due n = true := agree_all fun j hj => by
  have g := List.getElem?_eq_getElem (show j < gs.length by omega)
  rcases h j _ g with e | e
  · left; rw [List.getD_eq_getElem?_getD, g, e]; rfl
  · right; rw [List.getD_eq_getElem?_getD, List.getD_eq_getElem?_getD, g, e]
theorem Less.self (due : List (Option Str)) : Less due due := fun _ _ h => .inr h
theorem Less.mem {due gs : List (Option Str)} (h : Less due gs) {z : Str} (hz : some z ∈ gs) : some z ∈ due := by
  obtain ⟨j, hj⟩ := List.mem_iff_getElem?.mp hz
  rcases h j _ hj with e | e
  · cases e
  · exact List.mem_of_getElem? e
theorem Less.snoc {due gs : List (Option Str)} (h : Less due gs) {x : Option Str} (hx : x = none ∨ due[gs.length]? = some x) : Less due (gs ++ [x]) := fun j y hj => by
  by_cases lt : j < gs.length
  · rw [List.getElem?_append_left lt] at hj
    exact h j y hj
  · rw [List.getElem?_append_right (by omega)] at hj
    have : j - gs.length = 0 := by
      have := (List.getElem?_eq_some_iff.mp hj).1
      simp at this
      omega
    rw [this] at hj
    obtain rfl := Option.some.inj hj
    have : j = gs.length := by omega
    rw [this]
    exact hx
/-- a word put at a cell -/
def putAt (gs : List (Option Str)) (k : Nat) (z : Str) : List (Option Str) := gs.take k ++ [some z] ++ gs.drop (k + 1)
theorem putAt_len {gs : List (Option Str)} {k : Nat} {z : Str} (h : k < gs.length) : (putAt gs k z).length = gs.length := by
  unfold putAt
  rw [List.length_append, List.length_append, List.length_take, List.length_drop, List.length_singleton]
  omega
theorem putAt_get {gs : List (Option Str)} {k : Nat} {z : Str} (h : k < gs.length) (j : Nat) : (putAt gs k z).getD j none = if j = k then some z else gs.getD j none := by
  have e : putAt gs k z = gs.set k (some z) := by
    unfold putAt
    rw [List.set_eq_take_append_cons_drop, if_pos h, List.append_assoc]
    rfl
  rw [e, List.getD_eq_getElem?_getD, List.getD_eq_getElem?_getD, List.getElem?_set]
  by_cases q : k = j
  · subst q
    rw [if_pos rfl, if_pos rfl, if_pos h]
    rfl
  · rw [if_neg q, if_neg fun x => q x.symm]
theorem putAt_mem {gs : List (Option Str)} {k : Nat} {z y : Str} (h : some y ∈ putAt gs k z) : y = z ∨ some y ∈ gs := by
  unfold putAt at h
  rcases List.mem_append.mp h with h | h
  · rcases List.mem_append.mp h with h | h
    · exact .inr (List.mem_of_mem_take h)
    · exact .inl (Option.some.inj (List.mem_singleton.mp h))
  · exact .inr (List.mem_of_mem_drop h)
theorem putAt_agree {due gs : List (Option Str)} {k : Nat} {z : Str} {d : Option Str} (h : Less due gs) (lt : k < gs.length) (hd : due[k]? = some d) : agree (putAt gs k z) due gs.length = decide (d = some z) := by
  have at_ : fits1 (putAt gs k z) due k = decide (d = some z) := by
    unfold fits1
    rw [putAt_get lt, if_pos rfl, List.getD_eq_getElem?_getD, hd]
    show (decide (some z = none) || decide (some z = d)) = _
    by_cases q : d = some z
    · simp [q]
    · have q' : ¬ some z = d := fun e => q e.symm
      simp [q, q']
  by_cases q : d = some z
  · rw [decide_eq_true q]
    refine agree_all fun j hj => ?_
    rw [putAt_get lt]
    by_cases e : j = k
    · rw [if_pos e, e, List.getD_eq_getElem?_getD, hd, q]
      exact .inr rfl
    · rw [if_neg e]
      have g := List.getElem?_eq_getElem hj
      rcases h j _ g with r | r
      · left; rw [List.getD_eq_getElem?_getD, g, r]; rfl
      · right; rw [List.getD_eq_getElem?_getD, List.getD_eq_getElem?_getD, g, r]
  · rw [decide_eq_false q] at at_ ⊢
    exact agree_no at_ lt
theorem open_less (due : List (Option Str)) (n : Nat) : Less due (List.replicate n none) := fun j x h => .inl (by
  rw [List.getElem?_replicate] at h
  split at h
  · exact (Option.some.inj h).symm
  · cases h)
theorem open_forms (n : Nat) : (List.replicate n (none : Option Str)).map formV = List.replicate n .non := by rw [List.map_replicate]; rfl
theorem part_lo {xs : List V} {k : Nat} (h : k < xs.length) : ¬ (HT.sIx xs.length 0 none = 0 ∧ HT.sIx xs.length xs.length (some (k : Int)) = xs.length) := fun w => by
  have := w.2
  rw [HT.sIx_nat] at this
  omega
theorem part_hi {xs : List V} {k : Nat} (h : k < xs.length) : ¬ (HT.sIx xs.length 0 (some ((k : Int) + 1)) = 0 ∧ HT.sIx xs.length xs.length none = xs.length) := fun w => by
  have := w.1
  rw [show ((k : Int) + 1) = ((k + 1 : Nat) : Int) by omega, HT.sIx_nat] at this
  omega
end Xci

namespace Xci
open PySem L2
/-- marks, cells, forms, drawn -/
structure PlotS (H : Hp) (v : V) (many : Int) (pc pf : Addr) (cy : List V) (cells : List (List Int)) (fs : List (Option Str)) : Prop where
  tup : Tup H v [.int many, .ref pc, .ref pf]
  cp : H pc = some (.tup cy)
  cm : Mks H cy cells
  fok : FamOk many cells
  fp : H pf = some (.tup (fs.map formV))
  forms : FormsOk cells.length fs
theorem PlotS.tfr {H H' : Hp} {v : V} {many : Int} {pc pf : Addr} {cy : List V} {cells : List (List Int)} {fs : List (Option Str)} (d : PlotS H v many pc pf cy cells fs) (f : TFr H H') : PlotS H' v many pc pf cy cells fs :=
  ⟨Tup.keep f d.tup, f _ _ d.cp, d.cm.keep f, d.fok, f _ _ d.fp, d.forms⟩
theorem PlotS.same {H H' : Hp} {v : V} {many : Int} {pc pf : Addr} {cy : List V} {cells : List (List Int)} {fs : List (Option Str)} (d : PlotS H v many pc pf cy cells fs) (f : Same H H') : PlotS H' v many pc pf cy cells fs := d.tfr (TFr.same f)
theorem PlotS.ok6 {H : Hp} {v : V} {many : Int} {pc pf : Addr} {cy : List V} {cells : List (List Int)} {fs : List (Option Str)} (d : PlotS H v many pc pf cy cells fs) : ∀ c ∈ cells, MarksOk 6 c := fun c hc => (d.fok.ok c hc).le d.fok.hi
theorem PlotS.cf {H : Hp} {v : V} {many : Int} {pc pf : Addr} {cy : List V} {cells : List (List Int)} {fs : List (Option Str)} (d : PlotS H v many pc pf cy cells fs) : CfAt H pc pf cy cells fs :=
  ⟨d.cp, d.cm, d.fp, d.forms.len.symm, d.ok6, by have := d.fok.len; omega⟩
/-- the marks that all cells of a form have, in the order of its first cell -/
def commonL (rows : List (List Int × Str)) (z : Str) : List Int := ((cellsOf rows z).headD []).filter fun m => (cellsOf rows z).all fun c => decide (m ∈ c)
theorem commonL_mem {rows : List (List Int × Str)} {z : Str} {m : Int} (ne : cellsOf rows z ≠ []) : m ∈ commonL rows z ↔ ∀ c ∈ cellsOf rows z, m ∈ c := by
  unfold commonL
  cases h : cellsOf rows z with
  | nil => exact absurd h ne
  | cons c r =>
    rw [List.mem_filter, List.all_eq_true]
    exact ⟨fun x y hy => of_decide_eq_true (x.2 y hy), fun x => ⟨x c List.mem_cons_self, fun y hy => decide_eq_true (x y hy)⟩⟩
theorem commonL_ok {n : Int} {rows : List (List Int × Str)} {z : Str} (ne : cellsOf rows z ≠ []) (ok : ∀ c ∈ cellsOf rows z, MarksOk n c) : MarksOk n (commonL rows z) := by
  unfold commonL
  cases h : cellsOf rows z with
  | nil => exact absurd h ne
  | cons c r => exact (ok c (by rw [h]; exact List.mem_cons_self)).sub List.filter_sublist
theorem commonL_one {n : Int} {rows : List (List Int × Str)} {z : Str} {ms : List Int} (ne : cellsOf rows z ≠ []) (ok : ∀ c ∈ cellsOf rows z, MarksOk 6 c) (h : MarksOk n ms) (mem : ∀ m, m ∈ ms ↔ ∀ c ∈ cellsOf rows z, m ∈ c) : ms = commonL rows z :=
  MarksOk.one h (commonL_ok ne ok) fun m => (mem m).trans (commonL_mem ne).symm
theorem cells_named {cells : List (List Int)} {fs : List (Option Str)} {z : Str} (len : fs.length = cells.length) (h : some z ∈ fs) : cellsOf (rowsOf cells fs) z ≠ [] := fun e => by
  obtain ⟨i, hi⟩ := List.mem_iff_getElem?.mp h
  have lt := (List.getElem?_eq_some_iff.mp hi).1
  have : (cells[i]'(by omega)) ∈ cellsOf (rowsOf cells fs) z := cellsOf_mem.mpr (rows_mem.mpr ⟨i, List.getElem?_eq_getElem (by omega), hi⟩)
  rw [e] at this
  cases this
theorem cells_told {cells : List (List Int)} {fs : List (Option Str)} {z : Str} {c : List Int} (h : c ∈ cellsOf (rowsOf cells fs) z) : c ∈ cells := by
  obtain ⟨i, hi, _⟩ := rows_mem.mp (cellsOf_mem.mp h)
  exact List.mem_of_getElem? hi
def spPlot (t : Addr) (tab : Hp → Prop) (fr : Addr → Addr → Hp → Hp → Prop) : Sp := fun vs H Q _ => ∃ (a l : Addr) (mc mm : Int) (n : Nat), vs = [.ref a, .int mc, .int (n : Int), .int mm] ∧ Src H a l ∧ tab H ∧ 1 ≤ mc ∧ mc ≤ 24 ∧ 1 ≤ n ∧ n ≤ 12 ∧ 0 ≤ mm ∧ mm ≤ 6 ∧
  ∀ (v : V) (many : Int) (pc pf : Addr) (cy : List V) (cells : List (List Int)) (fs : List (Option Str)) (zs : List Str) (H' : Hp), PlotS H' v many pc pf cy cells fs → (cells.length : Int) ≤ mc → many ≤ mm → zs.length ≤ n → (∀ z, some z ∈ fs → z ∈ zs) → Src H' a l → tab H' → fr a l H H' → Q v H'
def spPlotTable (CF C : Addr) : Sp := fun vs H Q _ => ∃ (v : V) (many : Int) (pc pf : Addr) (cy : List V) (cells : List (List Int)) (fs : List (Option Str)), vs = [v] ∧ PlotS H v many pc pf cy cells fs ∧
  ∀ (t fam : Addr) (H' : Hp), TabAt C H' t fam pf → FamAt CF H' fam many pc → H t = none → Same H H' → Q (.ref t) H'
def spPlotSpoken : Sp := fun vs H Q _ => ∃ (v : V) (many : Int) (pc pf : Addr) (cy : List V) (cells : List (List Int)) (fs : List (Option Str)), vs = [v] ∧ PlotS H v many pc pf cy cells fs ∧
  ∀ (q : Addr) (zs : List Str) (H' : Hp), Rising fs zs → H' q = some (.lst (zs.map V.str)) → H q = none → Same H H' → Q (.ref q) H'
def spPlotCommons : Sp := fun vs H Q _ => ∃ (v : V) (many : Int) (pc pf : Addr) (cy : List V) (cells : List (List Int)) (fs : List (Option Str)), vs = [v] ∧ PlotS H v many pc pf cy cells fs ∧
  ∀ (d : Addr) (F : List Str) (g : Str → Addr) (H' : Hp), Rising fs F → HeldAt H' d F (commonL (rowsOf cells fs)) g → H d = none → Same H H' → Q (.ref d) H'
end Xci

namespace Xci
open PySem PySem.Spec PyProof.Rows L2
/-! set(a list of texts) -/
/-- so many unlike texts stand in the list -/
def Count (xs : List Str) (c : Nat) : Prop := ∃ us : List Str, us.Nodup ∧ (∀ z, z ∈ us ↔ z ∈ xs) ∧ us.length = c
theorem Count.le {xs : List Str} {c : Nat} (h : Count xs c) : c ≤ xs.length := by
  obtain ⟨us, nd, mem, rfl⟩ := h
  exact List.Nodup.length_le_of_subset nd fun z hz => (mem z).mp hz
theorem Count.next {xs : List Str} {c i : Nat} {x : Str} (h : Count (xs.take i) c) (ex : xs[i]? = some x) : Count (xs.take (i + 1)) (if decide (x ∈ xs.take i) = true then c else c + 1) := by
  obtain ⟨us, nd, mem, rfl⟩ := h
  have tk : xs.take (i + 1) = xs.take i ++ [x] := by rw [List.take_add_one, ex]; rfl
  by_cases q : x ∈ xs.take i
  · rw [if_pos (decide_eq_true q)]
    refine ⟨us, nd, fun z => ?_, rfl⟩
    rw [mem, tk, List.mem_append, List.mem_singleton]
    exact ⟨.inl, fun h => h.elim id fun e => e ▸ q⟩
  · rw [if_neg (by rw [decide_eq_false q]; exact Bool.false_ne_true)]
    refine ⟨us ++ [x], List.nodup_append.mpr ⟨nd, List.pairwise_singleton .., fun a ha b hb e => ?_⟩, fun z => ?_, List.length_append⟩
    · rw [List.mem_singleton.mp hb] at e
      exact q ((mem x).mp (e ▸ ha))
    · rw [tk, List.mem_append, List.mem_append, mem]
section
variable {P : Program} {w : World} {A : Around} {E : Value → Shared → Prop} {s : Shared}
/-- the texts that a walk yields are put into the set at S, one by one -/
theorem texts_fed {I S : Addr} {fp wr : List Addr} {G : Array GenState → Array GenState → Prop} {n : Nat} {Pv : Nat → Value → Prop} {St : Nat → Shared → Prop} {R : Result → Shared → Prop} {xs : List Str}
    (W : WalksS P w A.in1 I fp wr G n Pv St) (off : S ∉ fp) (len : n = xs.length) (room : n + 1 < scanBound) (item : ∀ i v, Pv i v → ∃ x t, xs[i]? = some x ∧ v = .str x t) :
    ∀ (left i : Nat) (s : Shared), i + left = n → St i s → (∃ c, Count (xs.take i) c ∧ SetL (PySem.strKind P w) s.heap S (fun j => decide (j ∈ xs.take i)) c) →
      (∀ s' c, Moved (S :: wr) G s s' → Count xs c → SetL (PySem.strKind P w) s'.heap S (fun j => decide (j ∈ xs)) c → R (.ok (.ret .none)) s') → codeAny (model P w) A (.builtin "set.update.loop" ⟨[.ref S, .ref I], []⟩) R s := by
  have offw : S ∉ wr := fun h => off (W.sub _ h)
  have more : ∀ b ∈ wr, b ∈ S :: wr := fun b => List.mem_cons_of_mem _
  intro left
  induction left with
  | zero =>
    rintro i s e st ⟨c, le, at0⟩ ends
    obtain rfl : i = n := e
    refine codeAny_builtin F.entry_set_update_loop (by
      rw [Around.under_plainId F.plain_set_update_loop _]
      show wpAny (model P w) A.in1 (pyNext (.ref I) >>= _) _ _ s
      refine wpAny_bind (W.done s _ _ st fun s' mv => ?_)
      show wpAny (model P w) A.in1 (ret Value.none) _ _ s'
      refine wpAny_pure ?_
      have all : xs.take i = xs := List.take_of_length_le (Nat.le_of_eq len.symm)
      rw [all] at at0 le
      exact ends s' c (mv.mono more) le (at0.keep fun o => mv.heap S o offw))
  | succ left ih =>
    rintro i s e st ⟨c, le, at0⟩ ends
    have lt : i < n := by omega
    refine codeAny_builtin F.entry_set_update_loop (by
      rw [Around.under_plainId F.plain_set_update_loop _]
      show wpAny (model P w) A.in1 (pyNext (.ref I) >>= _) _ _ s
      refine wpAny_bind (W.item i s _ _ lt st fun v s1 pv st1 mv => ?_)
      obtain ⟨x, t, ex, rfl⟩ := item i v pv
      have at1 := at0.keep (h' := s1.heap) fun o => mv.heap S o offw
      have small := le.le
      have short : (xs.take i).length ≤ i := List.length_take_le _ _
      show wpAny _ A.in1 (holding [Value.str x t] (setAdd S (.str x t)) >>= _) _ _ s1
      unfold setAdd
      refine wpAny_bind (wpAny_holding (wpAny_holding (wpAny_bind ((PySem.strKind P w).pyHash (k := x) (PySem.strKind_is _ _ x t) (SetL.add (s := { s1 with toks := s1.toks + 1 }) (PySem.strKind_is _ _ x t) rfl at1 (by omega) fun h' only at2 => ?_)))))
      have told : (fun j => decide (j ∈ xs.take i) || decide (j = x)) = fun j => decide (j ∈ xs.take (i + 1)) := funext fun j => by
        rw [List.take_add_one, ex, Bool.eq_iff_iff, Bool.or_eq_true, decide_eq_true_iff, decide_eq_true_iff, decide_eq_true_iff, List.mem_append]
        exact or_congr Iff.rfl List.mem_singleton.symm
      rw [told] at at2
      have le2 := le.next ex
      have other : ∀ b o, b ≠ S → s1.heap.get? b = some o → h'.get? b = some o := fun b o nb z => (only.2 b nb).trans z
      exact wpAny_pure ⟨plainId_quiet F.plain_set_update_loop _, ih (i + 1) _ (by omega) (W.frame _ s1 _ _ st1 (Nat.le_succ _) fun b hb o z => other b o (fun q => off (q ▸ hb)) z) ⟨_, le2, at2⟩ fun s2 c2 mv2 le3 at3 =>
        ends s2 c2 (Moved.trans W.gtrans ((mv.mono more).then_heap (Nat.le_succ _) fun b o hb z => other b o (fun q => hb (q ▸ List.mem_cons_self)) z) mv2) le3 at3⟩)
set_option maxHeartbeats 3200000 in
theorem set_of_texts {l : Addr} {items : Array Value} {xs : List Str} {Q : Value → Shared → Prop} (hh : A.handled = none) (p : s.heap.IsList l items) (row : StrsAre items.toList xs) (room : xs.length + 1 < scanBound)
    (q : ∀ h' tk c, SetL (PySem.strKind P w) h' s.heap.objs.size (fun j => decide (j ∈ xs)) c → Count xs c → (∀ b o, s.heap.get? b = some o → h'.get? b = some o) → Q (.ref s.heap.objs.size) { s with heap := h', toks := tk }) :
    wpAny (model P w) A (call (.type "set") [.ref l]) Q E s := by
  refine made_and_filled F.called_set (F.typeCall_set_1 _) (code_set_led1 (Q₁ := fun v s1 => v = .ref s.heap.objs.size ∧ s1 = { s with heap := s.heap.push (emptyO w) }) (.ref l) ⟨rfl, rfl⟩) ?_
  rintro _ _ ⟨rfl, rfl⟩
  have new : (s.heap.push (emptyO w)).get? s.heap.objs.size = some (emptyO w) := Heap.get?_push_size _ rfl
  refine ⟨⟨_, new, rfl⟩, codeAny_call_builtin F.called_set.init.plain F.entry_set_init (check_set_init_1 ⟨_, new, rfl⟩ ?_)⟩
  have old : ∀ b o, s.heap.get? b = some o → (s.heap.push (emptyO w)).get? b = some o := fun b o => Heap.get?_push_of_some _
  obtain ⟨o, at0, c0, n0, d0⟩ := id p
  obtain ⟨oc, od, odat, osl⟩ := o
  cases c0
  cases d0
  have lst : (s.heap.push (emptyO w)).IsList l items := ⟨_, old _ _ at0, rfl, n0, rfl⟩
  have at1 := old _ _ at0
  have noSet := F.sub_list_set
  have noFrozen := F.sub_list_frozenset
  have noDict : (Value.type "list" == Value.type "dict") = false := by decide
  unfold Builtin.«set.__init__» noKeywords Builtin.Frozenset.updateFrom
  generalize iterates : pyIter = PI
  wp_walk
  subst iterates
  refine wpAny_pyIter_list lst ?_
  refine wpAny_bind (wpAny_runValue ?_)
  have size1 : (s.heap.push (emptyO w)).objs.size = s.heap.objs.size + 1 := Heap.size_push ..
  have lt := Heap.lt_size at0
  have count : items.size = xs.length := by rw [← Array.length_toList, StrsAre.len_eq row]
  have W := (Walks.list (prog := P) (w := w) (A := A.in1.in1.in1) (show A.in1.in1.in1.handled = none from hh) (s.heap.objs.size + 1) l (Nat.ne_of_lt (Nat.lt_succ_of_lt lt)) items).toS
  show codeAny _ _ (.builtin "set.update.loop" ⟨[.ref s.heap.objs.size, .ref (s.heap.push (emptyO w)).objs.size], []⟩) _ _
  rw [size1]
  refine texts_fed W ?_ count (by rw [count]; exact room) (fun i v e => ?_) items.size 0 _ (Nat.zero_add _) ?_ ⟨0, ⟨[], List.nodup_nil, fun z => by simp, rfl⟩, ?_⟩ fun s' c moved le R => ?_
  · intro z
    rcases List.mem_cons.mp z with z | z
    · exact absurd z (Nat.ne_of_lt (Nat.lt_succ_self _))
    · exact absurd (List.mem_singleton.mp z) (Nat.ne_of_gt lt)
  · have z := e
    rw [← Array.getElem?_toList] at z
    obtain ⟨y, ey, ry⟩ := Paired.get' (vals_texts row) z
    rw [List.getElem?_map] at ey
    obtain ⟨x, ex, rfl⟩ := Option.map_eq_some_iff.mp ey
    obtain ⟨t, rfl⟩ := ry
    exact ⟨x, t, ex, rfl⟩
  · refine ⟨⟨{ cls := .type "list_iterator", data := .fields #[.ref l, .int 0 0] }, ?_, rfl, rfl⟩, lst.push _⟩
    rw [← size1]
    exact Heap.get?_push_size _ rfl
  · have none_ : (fun j : Str => decide (j ∈ xs.take 0)) = fun _ => false := funext fun j => by simp
    rw [none_]
    exact SetL.keep (SetL.none (kind := PySem.strKind P w)) fun o => Heap.get?_push_of_some _
  · obtain ⟨h', g', d', tk', os'⟩ := s'
    have away : ∀ b o, s.heap.get? b = some o → b ∉ [s.heap.objs.size, s.heap.objs.size + 1] := fun b o z q => by
      have := Heap.lt_size z
      rcases List.mem_cons.mp q with q | q
      · rw [q] at this; exact Nat.lt_irrefl _ this
      · rw [List.mem_singleton.mp q] at this; exact absurd this (Nat.not_lt.mpr (Nat.le_succ _))
    have kept : ∀ b o, s.heap.get? b = some o → h'.get? b = some o := fun b o z => moved.heap b o (away b o z) (Heap.get?_push_of_some _ (old b o z))
    obtain rfl : g' = s.gens := moved.gens
    obtain rfl : d' = s.drawn := moved.drawn
    obtain rfl : os' = s.os := moved.os
    exact wpAny_pure (wpAny_pure ⟨rfl, q h' tk' c R le kept⟩)
end
/-- set(x), x a list of texts -/
def rSetTexts (K : PySem.W.Frag) (P : Program) (w : World) : List V → Hp → VK → Prop := fun vs H Q => ∃ (l : Addr) (xs : List Str), vs = [V.ref l] ∧ SqL K H l (xs.map V.str) ∧ xs.length ≤ 1000 ∧
  ∀ (a : Addr) (c : Nat), Count xs c → H a = none → Q (.ref a) (upd H a (TextsO P w a (fun j => decide (j ∈ xs)) c))
theorem cr_setTexts {X : Cx} (calm : X.calm = true) : CallR X (.type "set") (rSetTexts X.K X.prog X.w) := by
  intro pins s σ H vs us Q I rv told
  obtain ⟨l, xs, rfl, sq, few, q⟩ := told
  rw [Vals.ref1 rv]
  obtain ⟨its, vals, lst, _⟩ := I.list sq
  have free : H s.heap.objs.size = none := I.hok.fresh (Nat.le_refl _)
  refine set_of_texts (I.ok.hd calm) lst.isList (xs := xs) (by simpa using vals.strs) (Nat.lt_of_le_of_lt (Nat.succ_le_succ few) (by decide)) fun h' tk c R le kept => ?_
  exact ⟨.ref _, _, I.laid (t' := tk) kept (Nat.le_refl _) (texts_new R), rfl, q _ c le free⟩
end Xci

namespace Xci
open PySem PySem.Spec PyProof.Rows L2 LamX
/-! ### sorted(xs, key=lambda x: -len(x[0])) of tuples that begin with a tuple -/
/-- the lambda's body, x its parameter -/
abbrev negLen (x : Str) (j : Nat) (p1 p2 p3 p4 p5 p6 : Pos) : Expr := .UnaryOp .USub (.Call (.Name "len" p1) [.Subscript (.Name x p2) (.Constant (.int 0) j p3) p4] [] p5) p6
/-- one parameter, which is its own, and len from outside -/
structure Lam1 (x : Str) (scope : Scope) : Prop where
  kind : scope.kind = .function
  co : scope.isCoroutine = false
  gen : scope.isGenerator = false
  nocell : ∀ y ∈ scope.names, y.2 ≠ .cell
  nofree : ∀ y ∈ scope.names, y.2 ≠ .free
  own : scope.names.lookup x = some .local
  len : scope.names.lookup ("len" : Str) = some .globalImplicit
theorem isTup_of {P : Program} {w : World} {H : Hp} {h : Heap} {t : Addr} {xs : List V} (hok : HOk P w H h) (e : H t = some (.tup xs)) : xs.length ≤ sizeLine ∧ ∃ its : List Value, Vals xs its ∧ IsTup h t its.toArray := hok t _ e
section
variable {X : Cx} {pins : List (Addr × Obj)} {σ : L2.St} {H : Hp} {s : Shared}
set_option maxHeartbeats 1000000 in
theorem negLen_turn {x qual : Str} {params : Arguments} {scope : Scope} {cl : List (Str × Addr)} {pm ctv : Value} {f c' t p : Addr} {r ys : List V} {j : Nat} {p1 p2 p3 p4 p5 p6 : Pos} {A : Around} {h : Heap} {tk : Nat} (I : Inv X pins σ H s) (L : Lam1 x scope) (hx : (x == ("__debug__" : Str)) = false)
    (hm : X.mg "len" = none) (hf : s.heap.get? f = some (PySem.W.kla_obj "<lambda>" qual params (negLen x j p1 p2 p3 p4 p5 p6) scope cl pm c' ctv)) (hc : H c' = some (CodeO c' qual)) (hroom : A.depth < recursionLimit)
    (hbind : ∀ (pm cv ctv v : Value), bindArgs (PySem.W.kla_fn "<lambda>" qual params (negLen x j p1 p2 p3 p4 p5 p6) scope cl pm cv ctv) ⟨[v], []⟩ = pure [(x, v)])
    (kp : ∀ b o, s.heap.get? b = some o → h.get? b = some o) (ht : H t = some (.tup (.ref p :: r))) (hp : H p = some (.tup ys)) :
    wpAny (model X.prog X.w) A (call (.ref f) [.ref t]) (PySem.W.KeyPure (.int (-(ys.length : Int))) { s with heap := h, toks := tk }) (fun _ _ => False) { s with heap := h, toks := tk } := by
  obtain ⟨⟨oc, us, tq, ec, ed, ev⟩, _, _⟩ := I.hok c' _ hc
  obtain ⟨_, its, rv, it⟩ := isTup_of I.hok ht
  obtain ⟨zp, jts, rw', jt⟩ := isTup_of I.hok hp
  have room : h.NoLimit := I.nolimit.keeps kp
  refine wpAny_call (PySem.W.kla_callFunE hroom (kp _ _ hf) rfl L.co L.gen rfl ⟨c', oc, us, tq, rfl, kp _ _ ec, ed, ev⟩ ?_)
  rw [hbind]
  refine wpAny_pure (wpAny_newFunctionEnv L.nocell (fun y hy => by rw [List.mem_singleton.mp hy]; exact L.own) (fun h₁ hns hsb => ⟨room.fresh _ hsb, ?_⟩) L.kind)
  have k1 : ∀ b o, h.get? b = some o → h₁.get? b = some o := fun b o e => hsb.extBut b o (Nat.ne_of_lt (Heap.lt_size e)) (Heap.get?_push_of_some _ e)
  have k2 : ∀ b o, s.heap.get? b = some o → h₁.get? b = some o := fun b o e => k1 b o (kp b o e)
  obtain ⟨mb, b1, b2⟩ := I.mod.blt
  refine PySem.W.kla_codeExpr (UnaryOp_ (wpAny_Call_Name_kw (Calls.Name_function_global L.kind L.len (Calls.loadGlobal_builtin ((I.mod.glob.keeps I.bk).keeps k2) hm ((b1.keeps I.bk).keeps k2) ((b2 "len" (by decide)).trans PySem.boot_len) ?_))))
  refine PyProof.Rows.callWith_builtin1 (Calls.spliced_cons (Subscript_ (wpAny_Name (wpAny_loadName_local (v := .ref t) L.kind L.own hns (by show List.lookup x [(x, Value.ref t)] = _; rw [List.lookup_cons, beq_self_eq_true]) (wpAny_Constant_int ?_)) hx))) (by rfl) (by rfl)
  cases rv with
  | cons r0 rs =>
    cases r0
    refine PyProof.Rows.subscriptTail_builtinR (x := .ref p) (it.keeps k2).typeIs slot_tuple_getitem.lookup (getItem_tuple (j := 0) (it.keeps k2) (by decide) (by decide) (by simp [seqIndex?]) (by simp) ⟨rfl, ?_⟩) (by with_unfolding_all rfl)
    refine Calls.spliced_nil (PyProof.Rows.len_tuple (jt.keeps k2) ?_ (neg_int ?_))
    · have := rw'.length
      have := line63
      rw [List.size_toArray]
      omega
    · refine ⟨h₁, _, rfl, k1, ?_⟩
      rw [List.size_toArray, ← rw'.length]
      exact .int _ _
end
/-- a tuple that begins with a tuple, of so many items -/
def Led (H : Hp) (b : V × Nat) : Prop := ∃ (t p : Addr) (r ys : List V), b.1 = .ref t ∧ H t = some (.tup (.ref p :: r)) ∧ H p = some (.tup ys) ∧ ys.length = b.2
theorem led_all {H : Hp} : ∀ {xs : List V}, (∀ x ∈ xs, ∃ n, Led H (x, n)) → ∃ bs : List (V × Nat), bs.map (·.1) = xs ∧ ∀ b ∈ bs, Led H b
  | [], _ => ⟨[], rfl, nofun⟩
  | x :: r, h => by
    obtain ⟨n, hn⟩ := h x List.mem_cons_self
    obtain ⟨bs, e, g⟩ := led_all (xs := r) fun y hy => h y (List.mem_cons_of_mem _ hy)
    refine ⟨(x, n) :: bs, by rw [List.map_cons, e], fun b hb => ?_⟩
    rcases List.mem_cons.mp hb with q | q
    · rw [q]; exact hn
    · exact g b q
theorem each_led {H : Hp} : ∀ {bs : List (V × Nat)} {its : List Value}, Vals (bs.map (·.1)) its → (∀ b ∈ bs, Led H b) → PySem.W.EachIs (fun v b => RelV b.1 v ∧ Led H b) its bs
  | [], _, .nil, _ => .nil
  | b :: r, _, .cons a t, h => .cons ⟨a, h b List.mem_cons_self⟩ (each_led t fun x hx => h x (List.mem_cons_of_mem _ hx))
theorem vals_led {H : Hp} : ∀ {bs : List (V × Nat)} {its : List Value}, PySem.W.EachIs (fun v b => RelV b.1 v ∧ Led H b) its bs → Vals (bs.map (·.1)) its
  | [], _, .nil => .nil
  | b :: r, _, .cons a t => .cons a.1 (vals_led t)
/-- sorted(xs, key=lambda x: -len(x[0])): any order of the items is told -/
def tSortLam (T : List (Addr × Str)) (ta : TA) : TE := fun σ H Q => ta σ H fun vs H1 => ∃ (a : Addr) (xs : List V), vs = [.ref a] ∧ H1 a = some (.lst xs) ∧ (∀ x ∈ xs, ∃ n, Led H1 (x, n)) ∧ Tabs T H1 ∧
  ∀ (H2 : Hp) (p : Addr) (ys : List V), ExtN H1 H2 → Tabs T H2 → ys.Perm xs → H2 p = none → Q (.ref p) (upd H2 p (.lst ys))
theorem led_ext {H H' : Hp} {b : V × Nat} (e : ExtN H H') (h : Led H b) : Led H' b := by
  obtain ⟨t, p, r, ys, e1, e2, e3, e4⟩ := h
  exact ⟨t, p, r, ys, e1, e _ _ e2 (fun _ z => by cases z), e _ _ e3 (fun _ z => by cases z), e4⟩
section
variable {X : Cx}
set_option maxHeartbeats 2000000 in
theorem pe_sortLam {T : List (Addr × Str)} {c P : Addr} {x : Str} {params : Arguments} {scope : Scope} {e : Expr} {ta : TA} {j k : Nat} {p lpos kpos pos p1 p2 p3 p4 p5 p6 : Pos} (hg : Gl X "sorted") (hm : X.mg "sorted" = none) (hml : X.mg "len" = none) (TB : TabB X.base X.mg c P) (hcode : X.env.code = .ref c)
    (hmT : (P, X.env.qual ++ "<lambda>") ∈ T) (hu : ∀ p ∈ T, p.1 = P → p.2 = X.env.qual ++ "<lambda>") (hr : Room (k + 1) X.A) (L : Lam1 x scope) (hx : (x == ("__debug__" : Str)) = false) (hdef : defaultsOf params X.env = ([], []))
    (hbind : ∀ (q : Str) (cl : List (Str × Addr)) (pm cv ctv v : Value), bindArgs (PySem.W.kla_fn "<lambda>" q params (negLen x j p1 p2 p3 p4 p5 p6) scope cl pm cv ctv) ⟨[v], []⟩ = pure [(x, v)]) (ha : PA X [e] ta)
    (he : backTo pos (starEach [e] X.env) = (false, eval e X.env) :: backTo pos (starEach [] X.env) := by rfl) (hpl : (backTo pos (starEach [e] X.env)).any (·.1) = false := by rfl) :
    PE X (.Call (.Name "sorted" p) [e] [⟨some "key", .Lambda params (negLen x j p1 p2 p3 p4 p5 p6) scope lpos, kpos⟩] pos) (tSortLam T ta) := by
  refine ⟨fun pins s σ H Q I h => ?_⟩
  refine wpAny_Call_Name_kw (ld_blt I hg hm (u := .builtin "sorted") (by decide +kernel) ?_)
  refine PyProof.Rows.callWith_kw (thn (ha.run pos pins s σ H _ I h) fun us s1 ⟨vs, H1, I1, r1, a, xs, one, ea, led, hT, q⟩ => ?_) he hpl (by rfl) (by rfl)
  subst one
  obtain rfl := Vals.ref1 r1
  have hf : ∀ y ∈ scope.names, y.2 = .free → ∃ c, X.env.cells.lookup y.1 = some c := fun y hy z => absurd z (L.nofree y hy)
  show wpAny (model X.prog X.w) X.A (evalAll [do let v ← eval (.Lambda params (negLen x j p1 p2 p3 p4 p5 p6) scope lpos) X.env; standAt pos; pure v]) _ _ s1
  refine wpAny_evalAll_cons (wpAny_bind (lam_make2 I1 TB hcode hmT hu hT hdef hf fun f c' pm ctv H2 s2 I2 eN T2 kf _ _ kc => wpAny_bind (wpAny_standAt (wpAny_pure (wpAny_evalAll_nil ?_)))))
  have ea2 := eN _ _ ea (fun _ z => by cases z)
  obtain ⟨bs, e1, good⟩ := led_all (H := H2) (xs := xs) fun y hy => by
    obtain ⟨n, hn⟩ := led y hy
    exact ⟨n, led_ext eN hn⟩
  obtain ⟨zs, its, n, rv, hob⟩ := I2.hok a _ ea2
  rw [← e1] at rv
  have lb : bs.length = xs.length := by rw [← e1, List.length_map]
  have hr2 : Room k X.A.in1 := hr.in1
  have hd : X.A.in1.in1.depth < recursionLimit := by
    have := hr.dp
    show X.A.depth < recursionLimit
    omega
  show wpAny (model X.prog X.w) X.A (call (.builtin "sorted") [.ref a] [(Str.ofString "key", .ref f)]) _ _ s2
  refine PySem.W.sorted_key_data (β := V × Nat) (b := false) (fun b => .int (-(b.2 : Int))) (vs := its) (bs := bs) (R := fun v b => RelV b.1 v ∧ Led H2 b) ⟨_, hob, rfl, n, rfl⟩ (each_led rv good) (PySem.W.AllAlike.of fun _ _ => rfl) (PySem.W.Sortable.others fun _ => ⟨nofun, nofun⟩)
    (by rw [lb]; exact zs) (fun b _ => by have := hr.un; show X.A.units + 2 + 0 < cLine; omega) (PyProof.Rows.ksk_s1 _ _) (fun _ => PyProof.Rows.ksk_l1 _ _) (fun _ => PyProof.Rows.ksk_t1 _ _) ?_ ?_
  · rintro v ⟨y, m⟩ ⟨ry, t, p, r, ys, rfl, et, ep, rfl⟩ _ h tk kp
    cases ry
    exact negLen_turn I2 L hx hml kf kc hd (hbind _ _) kp et ep
  · intro out c2 h' tk kp _ at_ hlen ho
    have pm2 : ((bs.mergeSort (PySem.W.dataLe false fun b : V × Nat => .int (-(b.2 : Int)))).map (·.1)).Perm xs := by
      rw [← e1]
      exact (List.mergeSort_perm bs _).map _
    have vo := vals_led ho
    refine ⟨.ref _, upd H2 (s2.heap.objs.size + 1) (.lst _), I2.laid (t' := tk) kp (Nat.le_succ _) ⟨?_, out, c2, vo, at_⟩, rfl, q H2 _ _ eN T2 pm2 (I2.hok.fresh (Nat.le_succ _))⟩
    rw [pm2.length_eq]
    exact zs
end
end Xci

namespace Xci
open PySem PySem.Spec PyProof.Rows L2 LamX
/-- a def whose code object stands at c -/
structure FunC (K : PySem.W.Frag) (x qual : Str) (st : Stmt) (f : Addr) (fd : FuncData) (c : Addr) : Prop where
  ex : ∃ (kV doc pm ct oc : Value) (an od : Option Addr) (osl : Array (Option Value)), fd = PySem.W.fnOf x qual (defArgs st) (defBody st) (defScope st) .none kV doc pm an (.ref c) ct ∧ K.lookup f = some ⟨oc, od, .func fd, osl⟩
  cd : PySem.W.codeIn K (.ref c) qual = true
section
variable {P : Program} {w : World} {K : PySem.W.Frag} {mg : Str → Option Value} {base : Heap}
theorem FunC.ok {x qual : Str} {st : Stmt} {f c : Addr} {fd : FuncData} {N ps : List Str} {k : Nat} {sp : Sp} (F : FunC K x qual st f fd c) (S : FnScope N ps (defScope st)) (len : ∀ vs H Q E, sp vs H Q E → vs.length = ps.length)
    (body : ∀ (A : Around) (outer : List Env) (s : Shared) (H : Hp) (vs : List V) (Q : VK) (E : XK), Room k (A.deeper (envOfC qual (defScope st) s.heap.objs.size f (.ref c))) → sp vs H Q E →
      ∃ t, PSs (cxOf CX0 P w K mg base N qual (defScope st) f (.ref c) A outer s H E).nox (defBody st) t ∧ t { nx := fun _ H' => Q .non H', rt := Q } (start N vs) H) : FnOk P w K mg base CX0 (k + 1) f fd ps sp := by
  obtain ⟨kV, doc, pm, ct, oc, an, od, osl, rfl, at_⟩ := F.ex
  exact fn_of at_ F.cd S len fun A outer s H vs Q E hr h => (body A outer s H vs Q E hr h).elim fun t z => ⟨t, z.1.nox, z.2⟩
theorem funC_mk {x qual : Str} {st : Stmt} {f c : Addr} {oc : Value} {od an : Option Addr} {osl : Array (Option Value)} {kV doc pm ct : Value} (l : K.lookup f = some ⟨oc, od, .func (PySem.W.fnOf x qual (defArgs st) (defBody st) (defScope st) .none kV doc pm an (.ref c) ct), osl⟩)
    (cd : PySem.W.codeIn K (.ref c) qual = true) : FunC K x qual st f (PySem.W.fnOf x qual (defArgs st) (defBody st) (defScope st) .none kV doc pm an (.ref c) ct) c := ⟨⟨_, _, _, _, _, _, _, _, rfl, l⟩, cd⟩
theorem tab_is {x : Str} {f c T : Addr} {oc oc' : Value} {od od' : Option Addr} {osl osl' : Array (Option Value)} {fd : FuncData} {vs : Array Value} (a : PySem.W.nsIn K mainGlobals x = some (some (.ref f))) (l : K.lookup f = some ⟨oc, od, .func fd, osl⟩) (e : fd.code = .ref c)
    (co : K.lookup c = some ⟨oc', od', .fields vs, osl'⟩) (cv : vs[11]? = some (.ref T)) : PySem.W.tabIn K x = some (c, T) := by
  unfold PySem.W.tabIn
  simp only [a, l, e, co, cv]
end
def spLawT (T : Addr) (K : PySem.W.Frag) : Sp := fun vs H Q _ => ∃ (a : Addr) (ns : List Int), vs = [.ref a] ∧ SqL K H a (ns.map V.int) ∧ ns.length ≤ 63 ∧ H T = some (.tbl #[]) ∧ ∀ H', Q (.bl true) H'
/-- the end of a law's proof where the def x0 makes a lambda -/
theorem walkL {l : PySem.W.OpenLaw} {q : Program} {loose : List Str} {XP : (Str → Option Value) → Heap → Prop} {YP : World → Heap → Prop} {d : DefRec} {K : Params → PySem.W.Frag} {k : Nat} (x0 : Str) (hn : l.most = some 63) (hdf : d.params.defaults = []) (hrec : ((recsOf q).find? fun e => e.name == x0).isSome = true) (hr : Room k callerA)
    (hY : ∀ (w : World) (h : Heap), YP w h → (K w.params).In h)
    (F : ∀ (w : World) (mg : Str → Option Value) (fa : Addr) (h : Heap), (K w.params).In h → h.Ns mainGlobals mg → mg d.name = some (.ref fa) →
      ∃ (c T : Addr) (fd : FuncData), PySem.W.tabIn (K w.params) x0 = some (c, T) ∧ (K w.params).lookup T = none ∧ (∀ (s : Shared) (u : Value), BindsTo s fd ⟨[u], []⟩ [("script", u)]) ∧
        ∀ base : Heap, (K w.params).In base → base.Ns mainGlobals mg → TabB base mg c T → FnOk l.prog w (K w.params) mg base CX0 k fa fd ["script"] (spLawT T (K w.params))) :
    PySem.W.WalkO q loose XP YP l.row.toRowW d [] (fun f vs => PySem.call f vs) := by
  obtain ⟨d0, h0⟩ := Option.isSome_iff_exists.mp hrec
  refine Att.attach_callB hn hdf fun w s₀ s₁ mg mb fa o pm cd doc a vs ns G Y ho hd hcd hmg hobj hints hlen hbits hg => ?_
  obtain ⟨c, T, fd, tab, off, binds, fn⟩ := F w mg fa _ (hY w _ Y) G.T.g hmg
  obtain ⟨code, empty⟩ := PySem.W.tab_of G.T (hY w _ Y) h0 tab
  have one : ∀ {M : Addr × Addr → Prop}, M (c, T) → ∀ p ∈ [(c, T)], M p := fun m p hp => by rw [List.mem_singleton.mp hp]; exact m
  refine law_callTs (cs := [(c, T)]) (sp := spLawT T (K w.params)) (hY w _ Y) G.T.g G.T.b G.T.builtins G.T.nolimit hg (one empty) (one off) (one code) G.T.bmain hobj hints (Nat.le_trans hlen (by decide)) hr
    (fun base kb nb tb => fn base kb nb (tb _ List.mem_cons_self)) binds (fun H tb told => ⟨a, ns, rfl, told, hlen, tb _ List.mem_cons_self, fun _ => rfl⟩) ?_
  intro H e s' z
  exact z
end Xci

namespace Xci
open PySem PySem.Spec PyProof.Rows L2 NdefX
/-! own exceptions whose __init__ says super().__init__(a text), and then fields -/
/-- what the written part says of such a class C: F is its __init__, made at fI; cc is the cell that holds C -/
structure XCls (P : Program) (K : PySem.W.Frag) (mg : Str → Option Value) (C fI cc : Addr) (F : NF) : Prop where
  ox : OexC K C
  lk : ∃ oc od osl kV doc pm an ct, K.lookup fI = some ⟨oc, od, .func (PySem.W.fnX F.name F.qual F.params F.body F.scope F.cl .none kV doc pm an (.ref F.c) ct), osl⟩
  cl : F.cl = [(("__class__" : Str), cc)]
  cd : PySem.W.codeIn K (.ref F.c) F.qual = true
  co : ∃ a b c vs file tf, K.lookup F.c = some ⟨a, b, .fields vs, c⟩ ∧ vs[2]? = some (.str file tf) ∧ ((P.main.file : Str) == file) = true
  ce : ∃ a b c, K.lookup cc = some ⟨a, b, .cell (some (.ref C)), c⟩
  mro : PySem.W.mroIn K C (.ref C) = some true
  sup : PySem.W.ks_superIn K C C "__init__" = some (some (.builtin "ValueError.__init__"))
  ve : PySem.W.subIn K (.ref C) (.type "ValueError") = some true
  op : PySem.W.nsIn K cStatics "thirdparty.any" = some none
  msu : mg "super" = none
  top : (P.main.scope.names.lookup ("super" : Str)).isSome = false
/-- what its text says: the names of the def -/
structure XTxt (F : NF) : Prop where
  su : F.scope.names.lookup ("super" : Str) = some .globalImplicit
  cl : F.scope.names.lookup ("__class__" : Str) = some .free
  se : F.scope.names.lookup ("self" : Str) = some .local
  kind : F.scope.kind = .function
  fst : ∃ ar, (F.params.posonlyargs ++ F.params.args).head? = some ar ∧ ar.arg = ("self" : Str)
theorem clsIn_of_ox {K : PySem.W.Frag} {C : Addr} (T : OexC K C) : ∃ cd, PySem.W.clsIn K C = some cd := by
  obtain ⟨nm, q, N, bs, bm, sn, sub, ab, col, dd, k0, k1, k2, k3, k5, hC, _⟩ := T.cls
  unfold PySem.W.clsIn
  rw [hC]
  exact ⟨_, rfl⟩
section
variable {CX : CXT} {P : Program} {w : World} {K : PySem.W.Frag} {mg : Str → Option Value} {base : Heap} {N : List Str} {F : NF} {fI C cc a : Addr} {A : Around} {outer : List Env} {s₀ : Shared} {H₀ : Hp} {E : XK}
variable {pins : List (Addr × Obj)} {σ : L2.St} {H : Hp} {s : Shared} {EE : Value → Shared → Prop}
/-- the built-in __init__, bound to the exception that is being made, called -/
theorem bound_init {X : Cx} {u : Addr} {ws : List Value} {A' : Around} {Q : Value → Shared → Prop} (T : OexC X.K C) (I : Inv X pins σ H s) (ea : H a = some (exo a C none)) (hl : ws.length ≤ sizeLine)
    (hu : s.heap.get? u = some (PySem.W.kxs_mw "ValueError.__init__" a)) (q : ∀ s', Inv X pins σ H s' → Q .none s') : wpAny (model X.prog X.w) A' (call (.ref u) ws) Q EE s := by
  obtain ⟨nm, qn, nsp, bs, bm, sn, sub, ab, col, dd, k0, k1, k2, k3, k5, hC, hbm⟩ := T.cls
  obtain ⟨t1, ho⟩ := exo_at I.hok ea
  have hCs := I.kIn _ _ hC
  obtain ⟨hp, g, d, t, os⟩ := s
  refine wpAny_call (codeAny_of_tree ?_)
  show wpAny _ A'.in1 (callAny (.ref u) ⟨ws, []⟩) _ _ _
  simp only [callAny]
  refine wpAny_bind (wpAny_load hu ?_)
  simp only [PySem.W.kxs_mw, show (Value.type "method-wrapper" == Value.type "method" || Value.type "method-wrapper" == Value.type "builtin_function_or_method" || Value.type "method-wrapper" == Value.type "method-wrapper") = true by decide, if_true]
  refine PySem.W.KFB.if_so (by decide) (wpAny_bind (PySem.W.check_bound_init F.excBase_ValueError.toExcCallFacts hCs ho rfl (wpAny_bind (wpAny_pure (wpAny_pure ?_)))))
  refine ⟨plainId_quiet F.excBase_ValueError.init.plain _, codeAny_builtin F.excBase_ValueError.initEntry ?_⟩
  refine PySem.W.exc_init_tree (cls := .ref C) (t0 := t1) (dv := none) (c2 := .none) (c3 := .none) (b4 := .bool false) ho hl fun h' k hx _ => ?_
  have J := I.write (t' := t) (x := a) (e := a) (o := exo a C none) (by rw [ea]; exact True.intro) (.inl rfl) k ⟨_, hx⟩ (exo_ok hx)
  have eu : upd H a (exo a C none) = H := funext fun b => by
    by_cases hb : b = a
    · subst hb; exact upd_same.trans ea.symm
    · exact upd_ne hb
  rw [eu] at J
  exact q _ J
/-- super().__init__(a text), the first statement of such a def: nothing of it is told -/
theorem super_step {p0 p1 p2 p3 p4 : Pos} {txt : Str} {j : Nat} {pc : Pos} {pl : Sem Bool} {Q : Flow → Shared → Prop} (XC : XCls P K mg C fI cc F) (XT : XTxt F)
    (I : Inv (ncx CX P w K mg base N F fI A outer s₀ H₀ E) pins σ H s) (h0 : N[0]? = some ("self" : Str)) (hσ : σ[0]? = some (some (.ref a))) (ea : H a = some (exo a C none))
    (q : ∀ s', Inv (ncx CX P w K mg base N F fI A outer s₀ H₀ E) pins σ H s' → Q .next s')
    (he : eval (.Call (.Attribute (.Call (.Name "super" p0) [] [] p1) "__init__" p2) [.Constant (.str txt) j pc] [] p3) (envF F fI s₀.heap.objs.size) = (do
      let o ← attributeBase (.Call (.Name "super" p0) [] [] p1) "__init__" (envF F fI s₀.heap.objs.size) (eval (.Call (.Name "super" p0) [] [] p1) (envF F fI s₀.heap.objs.size))
      standAt p2.atName
      let (g, l) ← holding [o] (getMethod o "__init__" pl)
      callWith p3 g l (backTo p3 (starEach [.Constant (.str txt) j pc] (envF F fI s₀.heap.objs.size))) [])) :
    _root_.PySem.wpAt (model P w) (A.deeper (envF F fI s₀.heap.objs.size)) (.func F.body (envF F fI s₀.heap.objs.size))
      (exec (.Expr (.Call (.Attribute (.Call (.Name "super" p0) [] [] p1) "__init__" p2) [.Constant (.str txt) j pc] [] p3) p4) (envF F fI s₀.heap.objs.size)) Q
      (ncx CX P w K mg base N F fI A outer s₀ H₀ E).xe s := by
  obtain ⟨m, hns, hl⟩ := I.loc
  obtain ⟨u, ru, hlook⟩ := hl 0 "self" (.ref a) h0 hσ (.inl XT.se)
  obtain rfl : u = Value.ref a := ru
  have hm : m "self" = some (.ref a) := by
    rcases hlook with ⟨_, z⟩ | ⟨z, _⟩
    · exact z
    · exfalso
      have e := XT.se
      rcases z with z | z
      · exact absurd (e.symm.trans z) (by decide)
      · exact absurd (e.symm.trans z) (by decide)
  obtain ⟨oc, od, osl, kV, doc, pm, an, ct, hf⟩ := XC.lk
  obtain ⟨c1, c2, vs, c3, file, tf, hco, hvs, hfile⟩ := XC.co
  obtain ⟨b1, b2, b3, hce⟩ := XC.ce
  obtain ⟨ar, har, har2⟩ := XT.fst
  obtain ⟨cdD, hcd⟩ := clsIn_of_ox XC.ox
  obtain ⟨t1, ho⟩ := exo_at I.hok ea
  have kin : K.In s.heap := I.kIn
  obtain ⟨oD, hD1, hD2⟩ : ∃ oD, s.heap.get? C = some oD ∧ oD.data = .cls cdD := by
    unfold PySem.W.clsIn at hcd
    split at hcd
    · next z =>
      cases hcd
      exact ⟨_, kin _ _ z, rfl⟩
    · cases hcd
  have isC : PySem.W.InstAt s.heap a ({ cls := .ref C, dict := none, data := .fields #[.ref t1, .none, .none, .none, .bool false, .none] } : Obj) C none := ⟨ho, rfl, rfl, trivial⟩
  obtain ⟨mb, blt1, blt2⟩ := I.mod.blt
  have glb : s.heap.Ns mainGlobals mg := I.mod.glob.keeps I.bk
  have bns : s.heap.Ns builtinsNs mb := blt1.keeps I.bk
  have bsu : mb "super" = some (.type "super") := (blt2 _ (by decide)).trans (by decide +kernel)
  have hi : interactive (envF F fI s₀.heap.objs.size) = false := by
    unfold interactive
    rw [show (envF F fI s₀.heap.objs.size).scope.kind = .function from XT.kind]
    rfl
  refine PySem.ks_wpAt_Expr_any (PySem.ks_wpAt_MethodCall ?_ he) hi
  refine PySem.ks_wpAt_super_base XT.su XT.cl rfl rfl (kin _ _ hf) rfl har rfl (kin _ _ hco) rfl hvs hfile XC.top ?_
  refine PySem.W.ks_loadName_global XT.kind XT.su (Calls.loadGlobal_builtin glb XC.msu bns bsu ⟨rfl, ?_⟩)
  refine wpAny_loadName_free (c := cc) XT.kind XT.cl (by show List.lookup _ F.cl = _; rw [XC.cl]; rfl) ⟨_, kin _ _ hce, rfl⟩ ?_
  refine wpAny_loadName_local XT.kind (by rw [har2]; exact XT.se) hns (by rw [har2]; exact hm) ?_
  obtain ⟨hp, g, d, t, os⟩ := s
  refine PySem.ks_wpAny_isType_cls hD1 hD2 ⟨rfl, ?_⟩
  refine PySem.ks_wpAny_call_super hD1 hD2 ho rfl (fun c e => ?_) (PySem.W.looks_mroIn kin XC.mro) (fun h' hso k => ?_)
  · cases e
  have I1 : Inv (ncx CX P w K mg base N F fI A outer s₀ H₀ E) pins σ H ⟨h', g, d, t, os⟩ := I.kept (t' := t) k
  have kin1 : K.In h' := kin.keeps k
  have hsup := XC.sup
  unfold PySem.W.ks_superIn at hsup
  rw [hcd] at hsup
  have isI : PySem.W.Looks (model P w) h' (isInstance (.ref a) (.type "ValueError")) true :=
    (PySem.W.InstAt.type (od := none) (h := h') ⟨k _ _ ho, rfl, rfl, trivial⟩).andThen (PySem.W.looks_subIn kin1 XC.ve)
  refine PySem.W.kxs_getMethod PySem.W.kxs_ValueError hso (PySem.W.looks_opaque kin1 XC.op) (l₀ := cdD.mro) ?_ rfl kin1 hsup isI (PySem.W.ks_ne kin isC hcd) (by decide) ?_
  · exact fun A' Q' E' s' z y => wpAny_bind (PySem.W.looks_clsIn kin1 hcd A' _ E' s' z (wpAny_pure y))
  have k2 : ∀ b o, h'.get? b = some o → (h'.push (PySem.W.kxs_mw "ValueError.__init__" a)).get? b = some o := fun b o z => Heap.get?_push_of_some _ z
  have I2 : Inv (ncx CX P w K mg base N F fI A outer s₀ H₀ E) pins σ H ⟨h'.push (PySem.W.kxs_mw "ValueError.__init__" a), g, d, t + 1, os⟩ := I1.kept (t' := t + 1) k2
  have hmw : (h'.push (PySem.W.kxs_mw "ValueError.__init__" a)).get? h'.objs.size = some (PySem.W.kxs_mw "ValueError.__init__" a) := Heap.get?_push_at rfl rfl
  show wpAny _ _ (callWith p3 (.ref h'.objs.size) [] (backTo p3 (starEach [.Constant (.str txt) j pc] _)) []) _ _ _
  have I3 : Inv (ncx CX P w K mg base N F fI A outer s₀ H₀ E) ((h'.objs.size, PySem.W.kxs_mw "ValueError.__init__" a) :: pins) σ H ⟨h'.push (PySem.W.kxs_mw "ValueError.__init__" a), g, d, t + 1, os⟩ := I2.pins_of fun p hp => by
    rcases List.mem_cons.mp hp with e | hp
    · subst e
      refine ⟨hmw, I1.hok.fresh (Nat.le_refl _), fun z => ?_, I1.nofs (Nat.le_refl _), fun v z => by cases z⟩
      have := I1.lt
      rw [← z] at this
      exact absurd this (Nat.lt_irrefl _)
    · exact I2.pin p (List.mem_append_right _ hp)
  refine PySem.W.kxs_callWith (i := "ValueError.__init__") (x := a) rfl (Calls.evalArgs_plain (thn ((pa_cons pe_str pa_nil).run p3 _ _ σ H (fun vs H1 => H1 = H ∧ vs.length = 1) I3 ⟨rfl, rfl⟩) fun us s1 ⟨vs', H1, J, r1, e1, e2⟩ => ?_))
  subst e1
  have hm1 := J.pin (h'.objs.size, PySem.W.kxs_mw "ValueError.__init__" a) (List.mem_append_right _ (List.mem_cons_self ..))
  refine ⟨hm1.1, ?_⟩
  have J' : Inv (ncx CX P w K mg base N F fI A outer s₀ H₀ E) pins σ H1 s1 := J.pins_of fun p hp => J.pin p (List.mem_append_right _ (List.mem_cons_of_mem _ hp))
  refine bound_init XC.ox J' ea ?_ hm1.1 q
  have := r1.length
  show ([] ++ us).length ≤ sizeLine
  rw [List.nil_append, ← this, e2]
  decide
/-- such an __init__ by what stands behind its first statement -/
theorem init_fn {ps : List Str} {k : Nat} {sp : Sp} {p0 p1 p2 p3 p4 : Pos} {txt : Str} {j : Nat} {pc : Pos} {pl : Addr → Sem Bool} {rest : List Stmt} (XC : XCls P K mg C fI cc F) (XT : XTxt F) (S : NScope N ps ["__class__"] F.scope) (h0 : N[0]? = some ("self" : Str))
    (hb : F.body = .Expr (.Call (.Attribute (.Call (.Name "super" p0) [] [] p1) "__init__" p2) [.Constant (.str txt) j pc] [] p3) p4 :: rest)
    (hbind : ∀ (kV doc pm ct : Value) (an : Option Addr) (us : List Value), us.length = ps.length → bindArgs (PySem.W.fnX F.name F.qual F.params F.body F.scope F.cl .none kV doc pm an (.ref F.c) ct) ⟨us, []⟩ = pure (ps.zip us))
    (he : ∀ L : Addr, eval (.Call (.Attribute (.Call (.Name "super" p0) [] [] p1) "__init__" p2) [.Constant (.str txt) j pc] [] p3) (envF F fI L) = (do
      let o ← attributeBase (.Call (.Name "super" p0) [] [] p1) "__init__" (envF F fI L) (eval (.Call (.Name "super" p0) [] [] p1) (envF F fI L))
      standAt p2.atName
      let (g, l) ← holding [o] (getMethod o "__init__" (pl L))
      callWith p3 g l (backTo p3 (starEach [.Constant (.str txt) j pc] (envF F fI L))) []))
    (hsp : ∀ vs H Q E, sp vs H Q E → vs.length = ps.length ∧ ∃ a ws, vs = V.ref a :: ws ∧ H a = some (exo a C none))
    (hrest : ∀ (A : Around) (outer : List Env) (s : Shared) (H : Hp) (vs : List V) (Q : VK) (E : XK), Room k (A.deeper (envF F fI s.heap.objs.size)) → sp vs H Q E →
      ∃ t, PSs (ncx CX P w K mg base N F fI A outer s H E) rest t ∧ t { nx := fun _ H' => Q .non H', rt := Q } (startF N vs [none]) H) :
    ∃ fd, FnOk P w K mg base CX (k + 1) fI fd ps sp ∧ Binds K fd ps [] := by
  obtain ⟨oc, od, osl, kV, doc, pm, an, ct, hf⟩ := XC.lk
  obtain ⟨b1, b2, b3, hce⟩ := XC.ce
  refine ⟨_, ⟨fun vs H Q E q => (hsp vs H Q E q).1, fun A outer s H args us vs Q E hr e0 hbi r q => ?_⟩, .all (hbind kV doc pm ct an)⟩
  obtain ⟨hl, a, ws, ev, ea⟩ := hsp vs H Q E q
  have kb : ∀ b o, base.get? b = some o → s.heap.get? b = some o := fun b o z => (e0.bs b o z).1
  have kin : K.In s.heap := e0.mod.kin.keeps kb
  have hcc : List.lookup ("__class__" : Str) F.cl = some cc := by rw [XC.cl]; rfl
  have only : ∀ (y : Str) (c : Addr), List.lookup y F.cl = some c → y = "__class__" ∧ c = cc := fun y c z => by
    rw [XC.cl] at z
    by_cases e : y = "__class__"
    · subst e
      cases z
      exact ⟨rfl, rfl⟩
    · have e' : (y == ("__class__" : Str)) = false := by simpa using e
      simp [List.lookup, e'] at z
  have cells : CellsAt F.cl ["__class__"] [none] s.heap H := ⟨rfl, fun y c z => by
      obtain ⟨_, rfl⟩ := only y c z
      exact ⟨(e0.bs _ _ (e0.mod.kin _ _ hce)).2, _, _, kin _ _ hce, rfl⟩, fun x y c z1 z2 => by rw [(only x c z1).1, (only y c z2).1], fun i y z => by
      cases i with
      | zero =>
        cases z
        exact ⟨cc, hcc, fun v z => by cases z⟩
      | succ i => cases z⟩
  refine PySem.ks_codeAny_call_defAt (body := F.body) (binds := ps.zip us) hr.depth (kin _ _ hf) rfl (e0.mod.nolimit.keeps kb) (PySem.W.codeRec_of kin XC.cd) rfl hbi S.nocell (fun ⟨n, _⟩ hy => S.par n (List.of_mem_zip hy).1) (fun h₁ hns hk₁ => ?_) S.co S.gen S.kind
  have I : Inv (ncx CX P w K mg base N F fI A outer s H E) [] (startF N vs [none]) H { s with heap := h₁, toks := s.toks + (ps.zip us).length } := inv_startN S hr.hd e0 hl r cells hns hk₁
  have hst : (startF N vs [none])[0]? = some (some (.ref a)) := by rw [ev]; rfl
  obtain ⟨t, ht, hq⟩ := hrest A outer s H vs Q E (hr.deeper _) q
  have fin : ∀ {s' : Shared} {σ' : L2.St} {H' : Hp} {v : V} {u : Value}, Inv (ncx CX P w K mg base N F fI A outer s H E) [] σ' H' s' → L2.RelV v u → Q v H' → CE outer P w H s Q u s' :=
    fun {s' σ' H' v u} J rv q => ⟨v, H', J.os, J.bare, J.base, J.hok, rv, q⟩
  show PySem.wpAt _ _ (.func F.body (envF F fI s.heap.objs.size)) (execs F.body (envF F fI s.heap.objs.size)) _ _ _
  rw [show execs F.body (envF F fI s.heap.objs.size) = execs (_ :: rest) (envF F fI s.heap.objs.size) from congrArg (execs · _) hb]
  refine PySem.ks_wpAt_execs_cons (super_step XC XT I h0 hst ea (fun s' J => ?_) (he _))
  show PySem.wpAt _ _ _ (execs rest _) _ _ _
  refine wpAt_of_wpAny (wpAny_mono (ht.run [] _ _ _ _ J hq) (fun fl s'' hs => ?_) fun e s'' hs => hs)
  cases fl with
  | ret u =>
    obtain ⟨v, σ', H', J', rv, q'⟩ := hs
    exact fin J' rv q'
  | next =>
    obtain ⟨σ', H', J', q'⟩ := hs
    exact fin (v := V.non) (u := Value.none) J' rfl q'
  | brk =>
    obtain ⟨_, _, _, q'⟩ := hs
    exact False.elim q'
  | cont =>
    obtain ⟨_, _, _, q'⟩ := hs
    exact False.elim q'
end
/-! ### the promises of the two kinds of such an __init__, and of more fields -/
def spX0 (C : Addr) : Sp := fun vs H Q _ => ∃ a, vs = [.ref a] ∧ H a = some (exo a C none) ∧ Q .non H
def spX1 (C : Addr) (f : Str) : Sp := fun vs H Q _ => ∃ a v, vs = [.ref a, v] ∧ H a = some (exo a C none) ∧ ∀ dx, H dx = none → dx ≠ a → Q .non (upd (upd H dx (exd dx [(f, v)])) a (exo a C (some dx)))
def spX2 (C : Addr) (f g : Str) : Sp := fun vs H Q _ => ∃ a v u, vs = [.ref a, v, u] ∧ H a = some (exo a C none) ∧
  ∀ dx, H dx = none → dx ≠ a → Q .non (upd (upd (upd H dx (exd dx [(f, v)])) a (exo a C (some dx))) dx (exd dx [(g, u), (f, v)]))
/-! ### C() of such a class without fields -/
section
variable {X : Cx} {pins : List (Addr × Obj)} {σ : L2.St} {H : Hp} {Q : XK} {e C : Addr}
/-- the exception is let go -/
theorem mk_bare {hp hp2 h2 : Heap} {g1 g2 : Array GenState} {d1 d2 : Drawn} {t1 t2 : Nat} {os1 os2 : OsState} (T : Raises X (.ref C)) (I : Inv X pins σ H ⟨hp, g1, d1, t1, os1⟩) (he : hp.objs.size ≤ e)
    (kk : ∀ b o, hp.get? b = some o → hp2.get? b = some o) (un : Un (frs X.stack) [] (upd H e (exo e C none)) (upd H e (exo e C none)) hp2 h2) (hok : HOk X.prog X.w (upd H e (exo e C none)) h2) (ho : os2 = os1) (hb : AllBare g2)
    (q : Q (.ref C) none H) : MkP X pins σ Q (.ref e) ⟨h2, g2, d2, t2, os2⟩ := by
  obtain ⟨t0, hoe⟩ := exo_at hok upd_same
  have hn : H e = none := I.hok.fresh he
  obtain ⟨G, gin, gout⟩ := restrict h2 fun b => decide (b ≠ e)
  have at_ : ∀ b, b ≠ e → G.get? b = h2.get? b := fun b z => gin b (decide_eq_true z)
  have off : G.get? e = none := gout e (by simp)
  have old : ∀ {b : Addr} {o : Obj}, hp.get? b = some o → b ≠ e := fun {b o} z => Nat.ne_of_lt (Nat.lt_of_lt_of_le (Heap.lt_size z) he)
  have trk : ∀ {b : Addr} {o : HO}, H b = some o → b ≠ e := fun {b o} z y => by rw [y, hn] at z; cases z
  have free_ : ∀ {b : Addr} {o : Obj}, hp.get? b = some o → H b = none → upd H e (exo e C none) b = none := fun {b o} z n => (upd_ne (old z)).trans n
  have U : Un (frs X.stack) [] H H hp G := {
    keep := fun b o z n h1 h2 => (at_ b (old z)).trans (un.keep b o (kk b o z) (free_ z n) h1 h2)
    slot := fun b o z n h1 h2 => by
      obtain ⟨sl, y⟩ := un.slot b o (kk b o z) (free_ z n) h1 h2
      exact ⟨sl, (at_ b (old z)).trans y⟩
    free := fun b o z n h1 => n
    there := fun b o z h1 => by
      obtain ⟨o', y⟩ := un.there b o (kk b o z) h1
      exact ⟨o', (at_ b (old z)).trans y⟩
    tups := fun b xs z => z
    frzs := fun b o v z => z
    tbls := fun b ps z => ⟨#[], by rw [z]; simp⟩ }
  have hok' : HOk X.prog X.w H G := fun b o z => by
    have hbe := trk z
    refine (hok b o ((upd_ne hbe).trans z)).stay (fun c v hc y => ?_) (fun c hc => ?_) (fun c xs hc => ?_)
    · have hce : c ≠ e := by
        rcases hc with hc | hc
        · rw [hc]; exact hbe
        · exact at_ne upd_same hc exo_own
      exact (at_ c hce).trans y
    · rwa [upd_ne (at_ne upd_same hc exo_own)] at hc
    · rwa [upd_ne (at_ne upd_same hc exo_tup)] at hc
  have J : Inv X pins σ H ⟨G, g2, d2, t2, os2⟩ := I.call' (ch := []) ho U hok' hb (fun b z => absurd z (by simp))
  refine ⟨e, _, _, ⟨G, g2, d2, t2, os2⟩, _, .ref C, none, rfl, J, fun b o z => ?_, off, hoe, ⟨rfl, rfl⟩, rfl, rfl, hn, rfl, hb, T, q⟩
  by_cases hbe : b = e
  · rw [hbe, off] at z; cases z
  · exact (at_ b hbe).symm.trans z
theorem pmk_x0 {CX : CXT} {x : Str} {fI : Addr} {k : Nat} {fd : FuncData} {p pos : Pos} (T : OexC X.K C) (iC : PySem.W.findIn X.K (.ref C) "__init__" = some (some (.ref fI))) (tI : PySem.W.typeIn X.K (.ref fI) = some (.type "function"))
    (F1 : FnOk X.prog X.w X.K X.mg X.base CX k fI fd ["self"] (spX0 C)) (hr : Room (k + 1) X.A) (hb : Binds X.K fd ["self"] []) (hx : Passes CX X (fun _ _ _ => False)) (hg : Gl X x) (hm : X.mg x = some (.ref C))
    (hdb : (x == ("__debug__" : Str)) = false := by decide) : PMk X (.Call (.Name x p) [] [] pos) (fun _ H Q => Q (.ref C) none H) := by
  intro pins s σ H Q I h
  obtain ⟨nm, q, N, bs, bm, sn, sub, ab, col, dd, k0, k1, k2, k3, k5, hC, hbm⟩ := T.cls
  refine wpAny_Call_Name_kw (ld_glob I hg hm ?_ hdb)
  refine PySem.W.callWith_K0 I.kIn T.kC ?_
  obtain ⟨hp, g, dr, tk, os⟩ := s
  have hsz : hp.objs.size ≤ hp.objs.size + 1 := Nat.le_succ _
  have kk : ∀ b o, hp.get? b = some o → ((hp.push (PySem.W.kdv_tup [])).push (PySem.HandSPX.excO C hp.objs.size)).get? b = some o := fun b o z => Heap.get?_push_of_some _ (Heap.get?_push_of_some _ z)
  have hget : ((hp.push (PySem.W.kdv_tup [])).push (PySem.HandSPX.excO C hp.objs.size)).get? (hp.objs.size + 1) = some (PySem.HandSPX.excO C hp.objs.size) := by heap_get
  have I2 := I.laid (t' := tk) (a := hp.objs.size + 1) (o := exo (hp.objs.size + 1) C none) kk hsz (exo_ok hget)
  refine wpAny_call (PySem.HandSPX.call_own F.excBase_ValueError (fun Y => PySem.HandSPX.refsVE_contains Y bm hbm) (I.kIn _ _ hC) (PySem.W.looks_findIn I.kIn iC) (fun self => PySem.W.bind_fn I.kIn self tI) (Nat.zero_le _)
    (codeAny_mono (F1.run _ X.stack _ _ ⟨[Value.ref (hp.objs.size + 1)], []⟩ [Value.ref (hp.objs.size + 1)] [V.ref (hp.objs.size + 1)] (fun v H2 => v = .non ∧ H2 = upd H (hp.objs.size + 1) (exo (hp.objs.size + 1) C none)) (fun _ _ _ => False)
      (hr.make C [] []) (I2.env0.make C [] []) (hb _ [Value.ref (hp.objs.size + 1)] I2.kIn rfl) (.cons rfl .nil) ⟨_, rfl, upd_same, rfl, rfl⟩) fun r s' hq' => ?_))
  cases r with
  | error er => exact hx pins σ _ _ er s' I2 hq'
  | ok fl =>
    cases fl with
    | ret u =>
      obtain ⟨v, H2, os2, bare2, un2, hok2, rv, ev, eH⟩ := hq'
      subst ev eH
      obtain ⟨h2, g2, d2, t2, os'⟩ := s'
      exact ⟨rv, mk_bare (raises_own T.exC T.tyC) I hsz kk un2 hok2 os2 bare2 h⟩
    | next => exact False.elim hq'
    | brk => exact False.elim hq'
    | cont => exact False.elim hq'
end
end Xci

namespace Xci
open PySem PySem.Spec PyProof.Rows L2
/-! data of any kind, dicts with texts or numbers for keys among them; none of its objects is one of those that are kept out -/
abbrev Out := Addr → Prop
/-- all but what is kept out stands as before -/
def FrO (N : Out) (H H' : Hp) : Prop := ∀ b o, H b = some o → ¬ N b → H' b = some o
theorem FrO.same {N : Out} {H H' : Hp} (s : Same H H') : FrO N H H' := fun b o e _ => s b o e
theorem FrO.trans {N : Out} {H H1 H2 : Hp} (f : FrO N H H1) (g : FrO N H1 H2) : FrO N H H2 := fun b o e n => g b o (f b o e n) n
theorem FrO.fr {a : Addr} {H H' : Hp} (f : Fr a H H') : FrO (· = a) H H' := fun b o e n => f b o e n
def keyD : Key → PyData
  | .inl i => .int i
  | .inr x => .str x
mutual
inductive Dt (a : Out) (H : Hp) : V → PyData → Prop
  | non : Dt a H .non .none
  | bl (b : Bool) : Dt a H (.bl b) (.bool b)
  | int (i : Int) : Dt a H (.int i) (.int i)
  | str (x : Str) : Dt a H (.str x) (.str x)
  | lst {p : Addr} {xs : List V} {ds : List PyData} : ¬ a p → H p = some (.lst xs) → DtAll a H xs ds → Dt a H (.ref p) (.list ds)
  | tup {p : Addr} {xs : List V} {ds : List PyData} : ¬ a p → H p = some (.tup xs) → DtAll a H xs ds → Dt a H (.ref p) (.tuple ds)
  | dic {p : Addr} {kvs : List (Key × V)} {ds : List PyData} : ¬ a p → H p = some (.dK kvs) → DtAll a H (kvs.map (·.2)) ds → Dt a H (.ref p) (.dict ((kvs.map fun q => keyD q.1).zip ds))
inductive DtAll (a : Out) (H : Hp) : List V → List PyData → Prop
  | nil : DtAll a H [] []
  | cons {v : V} {vs : List V} {d : PyData} {ds : List PyData} : Dt a H v d → DtAll a H vs ds → DtAll a H (v :: vs) (d :: ds)
end
mutual
theorem Dt.fr {a : Out} {H H' : Hp} (f : FrO a H H') : ∀ {v : V} {d : PyData}, Dt a H v d → Dt a H' v d
  | _, _, .non => .non
  | _, _, .bl b => .bl b
  | _, _, .int i => .int i
  | _, _, .str x => .str x
  | _, _, .lst n h r => .lst n (f _ _ h n) (DtAll.fr f r)
  | _, _, .tup n h r => .tup n (f _ _ h n) (DtAll.fr f r)
  | _, _, .dic n h r => .dic n (f _ _ h n) (DtAll.fr f r)
theorem DtAll.fr {a : Out} {H H' : Hp} (f : FrO a H H') : ∀ {vs : List V} {ds : List PyData}, DtAll a H vs ds → DtAll a H' vs ds
  | _, _, .nil => .nil
  | _, _, .cons r rs => .cons (Dt.fr f r) (DtAll.fr f rs)
end
mutual
theorem Dt.less {a b : Out} {H : Hp} (l : ∀ p, b p → a p) : ∀ {v : V} {d : PyData}, Dt a H v d → Dt b H v d
  | _, _, .non => .non
  | _, _, .bl x => .bl x
  | _, _, .int i => .int i
  | _, _, .str x => .str x
  | _, _, .lst n h r => .lst (fun z => n (l _ z)) h (DtAll.less l r)
  | _, _, .tup n h r => .tup (fun z => n (l _ z)) h (DtAll.less l r)
  | _, _, .dic n h r => .dic (fun z => n (l _ z)) h (DtAll.less l r)
theorem DtAll.less {a b : Out} {H : Hp} (l : ∀ p, b p → a p) : ∀ {vs : List V} {ds : List PyData}, DtAll a H vs ds → DtAll b H vs ds
  | _, _, .nil => .nil
  | _, _, .cons r rs => .cons (Dt.less l r) (DtAll.less l rs)
end
theorem DtAll.len {a : Out} {H : Hp} : ∀ {vs : List V} {ds : List PyData}, DtAll a H vs ds → vs.length = ds.length
  | _, _, .nil => rfl
  | _, _, .cons _ rs => congrArg (· + 1) (DtAll.len rs)
theorem DtAll.get {a : Out} {H : Hp} : ∀ {vs : List V} {ds : List PyData} {i : Nat} {v : V}, DtAll a H vs ds → vs[i]? = some v → ∃ d, ds[i]? = some d ∧ Dt a H v d
  | _, _, _, _, .nil, e => by simp at e
  | _, _, 0, _, .cons r _, e => by simp at e; subst e; exact ⟨_, rfl, r⟩
  | _, _, i + 1, _, .cons _ rs, e => by
    obtain ⟨d, h1, h2⟩ := DtAll.get rs (by simpa using e)
    exact ⟨d, by simpa using h1, h2⟩
theorem DtAll.append {a : Out} {H : Hp} : ∀ {vs us : List V} {ds es : List PyData}, DtAll a H vs ds → DtAll a H us es → DtAll a H (vs ++ us) (ds ++ es)
  | _, _, _, _, .nil, h => h
  | _, _, _, _, .cons r rs, h => .cons r (DtAll.append rs h)
theorem DtAll.cut {a : Out} {H : Hp} : ∀ {vs : List V} {ds : List PyData} (n : Nat), DtAll a H vs ds → DtAll a H (vs.take n) (ds.take n) ∧ DtAll a H (vs.drop n) (ds.drop n)
  | _, _, 0, h => ⟨by simp only [List.take_zero]; exact .nil, h⟩
  | _, _, n + 1, .nil => ⟨by simp only [List.take_nil]; exact .nil, by simp only [List.drop_nil]; exact .nil⟩
  | _, _, n + 1, .cons r rs => ⟨by simp only [List.take_succ_cons]; exact .cons r (DtAll.cut n rs).1, by simp only [List.drop_succ_cons]; exact (DtAll.cut n rs).2⟩
/-! ### what stands in memory -/
section
variable {X : Cx} {pins : List (Addr × Obj)} {σ : L2.St} {H : Hp} {s : Shared}
theorem tracked_not_sys (hS : ∃ o, X.base.get? sysModules = some o) (I : Inv X pins σ H s) {b : Addr} {o : HO} (h : H b = some o) : b ≠ sysModules := fun e => by
  obtain ⟨ob, q⟩ := hS
  have := (I.bs _ _ q).2
  rw [← e, h] at this
  cases this
theorem not_app {c : Addr} {as bs : List Addr} (h1 : c ∉ as) (h2 : c ∉ bs) : c ∉ as ++ bs := fun z => (List.mem_append.mp z).elim h1 h2
theorem keys_read {P : Program} {w : World} {h : Heap} : ∀ {kvs : List (Key × V)} {us : List (Key × Value)} {es : List DictEntry}, KV kvs us → PySem.Pairs (mixKind P w) es us →
    ReadsAll h (es.map (·.key)) (kvs.map fun q => keyD q.1) [] ∧ Vals (kvs.map (·.2)) (es.map (·.val))
  | _, _, _, .nil, .nil => ⟨.nil, .nil⟩
  | (k, v) :: _, (k', v') :: _, e :: _, .cons ⟨e1, e2⟩ r, .cons h1 h2 r' => by
    dsimp only at e1 e2 h1 h2
    subst e1
    obtain ⟨q1, q2⟩ := keys_read r r'
    refine ⟨ReadsAll.cons (as := []) ?_ q1, .cons (show L2.RelV v e.val by rw [h2]; exact e2) q2⟩
    have z : keyIs k e.key = true := h1
    cases k with
    | inl i =>
      obtain ⟨t, y⟩ : ∃ t, e.key = .int i t := by
        have z' : Value.isInt i e.key = true := z
        unfold Value.isInt at z'
        split at z' <;> simp_all
      show Reads h e.key (.int i) []
      rw [y]
      exact Reads.int i t
    | inr x =>
      obtain ⟨t, y⟩ : ∃ t, e.key = .str x t := by
        have z' : Value.isStrOf x e.key = true := z
        unfold Value.isStrOf at z'
        split at z' <;> simp_all
      show Reads h e.key (.str x) []
      rw [y]
      exact Reads.str x t
mutual
theorem Dt.reads (hS : ∃ o, X.base.get? sysModules = some o) (I : Inv X pins σ H s) {a : Out} : ∀ {v : V} {d : PyData} {u : Value}, Dt a H v d → L2.RelV v u → ∃ as, Reads s.heap u d as ∧ sysModules ∉ as
  | _, _, _, .non, r => by
    cases r
    exact ⟨[], Reads.none, by simp⟩
  | _, _, _, .bl b, r => by
    cases r
    exact ⟨[], Reads.bool b, by simp⟩
  | _, _, _, .int i, r => by
    obtain ⟨t, rfl⟩ := r
    exact ⟨[], Reads.int i t, by simp⟩
  | _, _, _, .str x, r => by
    obtain ⟨t, rfl⟩ := r
    exact ⟨[], Reads.str x t, by simp⟩
  | _, _, _, .lst (p := p) n h rs, r => by
    cases r
    obtain ⟨_, its, nn, rv, ho⟩ := I.hok _ _ h
    obtain ⟨as, hr, hn⟩ := DtAll.reads hS I rs rv
    exact ⟨_, Reads.list ho rfl rfl hr, fun z => (List.mem_cons.mp z).elim (fun z => tracked_not_sys hS I h z.symm) hn⟩
  | _, _, _, .tup n h rs, r => by
    cases r
    obtain ⟨_, its, rv, o, ho, hc, nn, hd⟩ := I.hok _ _ h
    obtain ⟨as, hr, hn⟩ := DtAll.reads hS I rs rv
    exact ⟨_, Reads.tuple ho hc hd hr, hn⟩
  | _, _, _, .dic (p := p) (kvs := kvs) (ds := ds) n h rs, r => by
    cases r
    obtain ⟨_, _, us, hkv, o, es, ep, ho, hx, hd, _, hp, _⟩ := I.hok _ _ h
    obtain ⟨q1, q2⟩ := keys_read (h := s.heap) hkv hp
    obtain ⟨as, hr, hn⟩ := DtAll.reads hS I rs q2
    have hl : (kvs.map fun q => keyD q.1).length = ds.length := by rw [← DtAll.len rs, List.length_map, List.length_map]
    refine ⟨_, Reads.dict ho hx.1 hd (by rw [List.map_fst_zip (by omega)]; exact q1) (by rw [List.map_snd_zip (by omega)]; exact hr), fun z => ?_⟩
    rcases List.mem_append.mp z with z | z
    · rcases List.mem_cons.mp z with z | z
      · exact tracked_not_sys hS I h z.symm
      · cases z
    · exact hn z
theorem DtAll.reads (hS : ∃ o, X.base.get? sysModules = some o) (I : Inv X pins σ H s) {a : Out} : ∀ {vs : List V} {ds : List PyData} {us : List Value}, DtAll a H vs ds → Vals vs us → ∃ as, ReadsAll s.heap us ds as ∧ sysModules ∉ as
  | _, _, _, .nil, .nil => ⟨[], .nil, by simp⟩
  | _, _, _, .cons h hs, .cons r rs => by
    obtain ⟨as, q1, n1⟩ := Dt.reads hS I h r
    obtain ⟨bs, q2, n2⟩ := DtAll.reads hS I hs rs
    exact ⟨_, .cons q1 q2, not_app n1 n2⟩
end
end
/-! ### repr -/
/-- short data: its text fits -/
structure Fine (n k : Nat) (d : PyData) : Prop where
  sh : d.showable = true
  lv : d.leavesShort 40 = true
  bk : d.bulk ≤ n
  dp : d.depth ≤ k
theorem Fine.fits {n k : Nat} {d : PyData} (f : Fine n k d) (h : n ≤ 390000) : d.shown.length ≤ sizeLine := by
  have e := PyData.shown_le_bulk 40 (by decide) d f.lv
  have h2 : 42 * d.bulk ≤ 42 * 390000 := Nat.mul_le_mul_left _ (Nat.le_trans f.bk h)
  rw [sizeLine_eq]
  omega
def rRep : List V → Hp → VK → Prop := fun xs H Q => ∃ (a : Out) (p : Addr) (d : PyData), xs = [.ref p] ∧ Dt a H (.ref p) d ∧ Fine 390000 60 d ∧ Q (.str d.shown) H
theorem call_rep {X : Cx} (hS : ∃ o, X.base.get? sysModules = some o) (hg : X.A.guards = some []) (hu : X.A.units + 64 < cLine) : CallR X (.builtin "repr") rRep := by
  intro pins s σ H xs us Q I rv h
  obtain ⟨a, p, d, rfl, hd, hf, q⟩ := h
  cases rv with
  | cons r rs =>
    cases rs
    cases r
    obtain ⟨as, hr, hn⟩ := Dt.reads hS I hd rfl
    have := hf.dp
    exact repr_of_reads' hr hf.sh (fun _ => hn) hg (by omega) (fun _ _ e => e) (fun h' u tk hk => ⟨.str d.shown, H, I.kept (t' := tk) hk, ⟨u, rfl⟩, q⟩) (hf.fits (Nat.le_refl _))
end Xci

namespace Xci
open PySem PySem.Spec PyProof.Rows L2
/-! C(..) whose __init__ may raise, told at the caller's slots -/
def tMakeS (C : Addr) (sp : Sp) (E : L2.St → XK) (t : TA) : TE := fun σ H Q => t σ H fun vs H1 => ∀ x dx, H1 x = none → H1 dx = none → dx ≠ x → sp (.ref x :: vs) (upd (upd H1 dx (.own x)) x (.ins C dx [])) (fun v H2 => v = .non ∧ Q (.ref x) H2) (E σ)
section
variable {X : Cx} {CX : CXT} {k : Nat} {f C : Addr} {fd : FuncData} {ps : List Str} {sp : Sp} {E : L2.St → XK} {x : Str} {p pos : Pos} {e : Expr} {es : List Expr} {t : TA}
theorem pe_makeS (M : L2.Mk X.K C f) (F : FnOk X.prog X.w X.K X.mg X.base CX k f fd ps sp) (hr : Room (k + 1) X.A) (hg : Gl X x) (hm : X.mg x = some (.ref C)) (hb : Binds X.K fd ps []) (hx : ∀ σ, PassesAt CX X σ (E σ)) (ha : PA X (e :: es) t)
    (hdb : (x == ("__debug__" : Str)) = false := by decide) (he : starEach (e :: es) X.env = (false, eval e X.env) :: starEach es X.env := by rfl) (hpl : (backTo pos (starEach es X.env)).any (·.1) = false := by rfl) :
    PE X (.Call (.Name x p) (e :: es) [] pos) (tMakeS C sp E t) := by
  refine ⟨fun pins s σ H Q I h => wpAny_Call_Name_kw (ld_glob I hg hm (PySem.W.callWith_K (h₀ := X.base) I.ok.mod.kin M.kp (thn (ha.run pos pins s σ H _ I h) fun us s1 ⟨vs, H1, I1, r, q⟩ => ⟨I1.kIn, ?_⟩) he hpl) hdb)⟩
  show wpAny _ _ (call (.ref C) us) _ _ _
  have new1 : H1 (s1.heap.objs.size + 1) = none := I1.hok.fresh (Nat.le_succ _)
  have new0 : H1 s1.heap.objs.size = none := I1.hok.fresh (Nat.le_refl _)
  have told := q _ _ new1 new0 (Nat.ne_of_lt (Nat.lt_succ_self _))
  have J := Inv.made (C := C) I1
  have rv : Vals (V.ref (s1.heap.objs.size + 1) :: vs) (Value.ref (s1.heap.objs.size + 1) :: us) := .cons rfl r
  have ar : (Value.ref (s1.heap.objs.size + 1) :: us).length = ps.length := by rw [← rv.length]; exact F.len _ _ _ _ told
  have bnd := hb _ (Value.ref (s1.heap.objs.size + 1) :: us) J.kIn (by rw [List.append_nil]; exact ar)
  rw [List.append_nil] at bnd
  refine wpAny_call (make_map (f := f) I1.kIn M.makes M.init (beq_iff_eq.mp M.fn) (codeAny_mono (F.run _ X.stack _ _ ⟨Value.ref (s1.heap.objs.size + 1) :: us, []⟩ _ _ _ (E σ) (hr.make C us []) (J.env0.make C us []) bnd rv told) fun r' s' z => ?_))
  match r', z with
  | .error er, z => exact hx σ pins _ _ er s' J z
  | .ok (.ret u), z =>
    obtain ⟨v, H', J', rv', ev, y⟩ := J.after z
    subst ev
    exact ⟨rv', V.ref (s1.heap.objs.size + 1), H', J', rfl, y⟩
  | .ok .next, z => exact False.elim z
  | .ok .brk, z => exact False.elim z
  | .ok .cont, z => exact False.elim z
end
/-! an error class of the program, as those who raise it see it -/
structure ErrC (P : Program) (w : World) (K : PySem.W.Frag) (mg : Str → Option Value) (base : Heap) (nm : Str) (C : Addr) (ps : List Str) (sp : Sp) : Prop where
  ex : ∃ (fI : Addr) (fd : FuncData), PySem.W.findIn K (.ref C) "__init__" = some (some (.ref fI)) ∧ PySem.W.typeIn K (.ref fI) = some (.type "function") ∧ FnOk P w K mg base CX0 1 fI fd ps sp ∧ Binds K fd ps []
  ox : OexC K C
  at_ : mg nm = some (.ref C)
section
variable {X : Cx} {C : Addr} {nm f g : Str} {e : Expr} {es : List Expr} {ta : TA} {p pos : Pos}
theorem pmk_e0 (H : ErrC X.prog X.w X.K X.mg X.base nm C ["self"] (spX0 C)) (hr : Room 2 X.A) (hg : Gl X nm) (hdb : (nm == ("__debug__" : Str)) = false := by decide) : PMk X (.Call (.Name nm p) [] [] pos) (fun _ H Q => Q (.ref C) none H) := by
  obtain ⟨fI, fd, h1, h2, F1, hb⟩ := H.ex
  exact pmk_x0 H.ox h1 h2 F1 hr hb pass0 hg H.at_ hdb
/-- C(e, ..): an error with fields -/
theorem pmk_en {ps : List Str} {sp : Sp} (H : ErrC X.prog X.w X.K X.mg X.base nm C ps sp) (hr : Room 2 X.A) (hg : Gl X nm) (ha : PA X (e :: es) ta) (hdb : (nm == ("__debug__" : Str)) = false := by decide)
    (hs : starEach (e :: es) X.env = (false, eval e X.env) :: starEach es X.env := by rfl) (hpl : (backTo pos (starEach es X.env)).any (·.1) = false := by rfl) :
    PMk X (.Call (.Name nm p) (e :: es) [] pos) (tMkO C sp [] ta) := by
  obtain ⟨fI, fd, h1, h2, F1, hb⟩ := H.ex
  exact pmk_oex H.ox h1 h2 F1 hr hb (dvs := []) .nil pass0 hg H.at_ ha hdb hs hpl
/-- .. what it asks, of one field -/
theorem x1_read {H1 : Hp} {v : V} {Q : XK} (q : ∀ d H2, H2 d = some (.xd [(f, v)]) → H1 d = none → Same H1 H2 → Q (.ref C) (some d) H2) :
    ([v] : List V).length ≤ 1000 ∧ ∀ a, H1 a = none → spX1 C f (.ref a :: ([v] ++ [])) (upd H1 a (exo a C none))
      (fun v H2 => v = .non ∧ ∃ (d : Addr) (fs : List (Str × V)), H2 a = some (exo a C (some d)) ∧ H2 d = some (exd d fs) ∧ H1 d = none ∧ Q (.ref C) (some d) (upd (L2.del H2 a) d (.xd fs))) (fun _ _ _ => False) := by
  refine ⟨by show 1 ≤ 1000; decide, fun a na => ⟨a, v, rfl, upd_same, fun dx nd ne => ⟨rfl, dx, [(f, v)], upd_same, ?_, ?_, ?_⟩⟩⟩
  · rw [upd_ne ne, upd_same]
  · rwa [upd_ne ne] at nd
  · rw [upd_ne ne] at nd
    refine q dx _ upd_same nd fun b o h => ?_
    have ba := ne_of_none h na
    have bd := ne_of_none h nd
    rw [upd_ne bd, del_ne ba, upd_ne ba, upd_ne bd, upd_ne ba]
    exact h
end
/-! classes and defs of the program that may raise, as their callers see them -/
structure HasX (P : Program) (w : World) (K : PySem.W.Frag) (mg : Str → Option Value) (base : Heap) (nm : Str) (C : Addr) (ps : List Str) (k : Nat) (sp : Sp) : Prop where
  ex : ∃ (f : Addr) (fd : FuncData), L2.Mk K C f ∧ FnOk P w K mg base (L2.CX P w) k f fd ps sp ∧ Binds K fd ps []
  at_ : mg nm = some (.ref C)
structure HasR (P : Program) (w : World) (K : PySem.W.Frag) (mg : Str → Option Value) (base : Heap) (nm : Str) (ps : List Str) (k : Nat) (sp : Sp) : Prop where
  ex : ∃ (f : Addr) (fd : FuncData), FnOk P w K mg base (L2.CX P w) k f fd ps sp ∧ mg nm = some (.ref f) ∧ PySem.W.keepIn K (.ref f) = true ∧ Binds K fd ps []
section
variable {X : Cx} {W : WX} {C : Addr} {k : Nat} {nm : Str} {ps : List Str} {sp : Sp} {e : Expr} {es : List Expr} {t : TA} {p pos : Pos}
theorem pe_makeX (h : HasX X.prog X.w X.K X.mg X.base nm C ps k sp) (hr : Room (k + 1) X.A) (hg : Gl X nm) (tk : Takes X W) (ha : PA X (e :: es) t) (hdb : (nm == ("__debug__" : Str)) = false := by decide)
    (he : starEach (e :: es) X.env = (false, eval e X.env) :: starEach es X.env := by rfl) (hpl : (backTo pos (starEach es X.env)).any (·.1) = false := by rfl) : PE X (.Call (.Name nm p) (e :: es) [] pos) (tMakeS C sp (WE W) t) := by
  obtain ⟨f, fd, M, F, b⟩ := h.ex
  exact pe_makeS M F hr hg h.at_ b (fun σ => passAt tk σ) ha hdb he hpl
theorem pe_callX (h : HasR X.prog X.w X.K X.mg X.base nm ps k sp) (hr : Room k X.A) (hg : Gl X nm) (tk : Takes X W) (ha : PA X (e :: es) t) (hdb : (nm == ("__debug__" : Str)) = false := by decide)
    (he : starEach (e :: es) X.env = (false, eval e X.env) :: starEach es X.env := by rfl) (hpl : (backTo pos (starEach es X.env)).any (·.1) = false := by rfl) : PE X (.Call (.Name nm p) (e :: es) [] pos) (tCallS sp (WE W) t) := by
  obtain ⟨f, fd, F, g, kp, b⟩ := h.ex
  exact pe_callS F hr hg g kp b (fun σ => passAt tk σ) ha hdb he hpl
end
/-- what an except clause needs of the class that it names and of the one that flies -/
structure Catch (K : PySem.W.Frag) (mg : Str → Option Value) (nm : Str) (D : Addr) : Prop where
  at_ : mg nm = some (.ref D)
  ex : PySem.W.subIn K (.ref D) (.type "BaseException") = some true
  is : PySem.W.isClsIn K D = true
  ty : PySem.W.typeIn K (.ref D) = some (.type "type")
theorem Catch.one {K : PySem.W.Frag} {mg : Str → Option Value} {nm : Str} {C D : Addr} {b : Bool} (c : Catch K mg nm D) (h : PySem.W.subIn K (.ref C) (.ref D) = some b) : PySem.W.exmOne K (.ref C) (.ref D) = some b := by
  have e1 : (PySem.W.subIn K (.ref D) (.type "BaseException") == some true) = true := by rw [c.ex] <;> rfl
  have e2 : ((PySem.W.clsIn K D).isSome && PySem.W.typeIn K (.ref D) == some (.type "type")) = true := by
    rw [show (PySem.W.clsIn K D).isSome = true from c.is, c.ty] <;> rfl
  unfold PySem.W.exmOne
  rw [if_pos e1]
  show (if _ then _ else _) = _
  rw [if_pos e2]
  exact h
/-! what isinstance says of data -/
def tyD : PyData → String
  | .none => "NoneType"
  | .bool _ => "bool"
  | .int _ => "int"
  | .str _ => "str"
  | .list _ => "list"
  | .tuple _ => "tuple"
  | .dict _ => "dict"
def isaT (T t : String) : Bool := t == T || (T == "int" && t == "bool")
def isaD (T : String) (d : PyData) : Bool := isaT T (tyD d)
theorem dt_ty {K : PySem.W.Frag} {a : Out} {H : Hp} {v : V} {d : PyData} (h : Dt a H v d) : TyX K H v (.type (tyD d)) := by
  cases h with
  | non => exact .base .non
  | bl b => exact .base (.bl b)
  | int i => exact .base (.int i)
  | str x => exact .base (.str x)
  | lst _ h _ => exact .base (.lst h)
  | tup _ h _ => exact .base (.tup h)
  | dic _ h _ => exact .base (.dK h)
theorem kit_D {K : PySem.W.Frag} (d : PyData) {T : String} (hT : T = "int" ∨ T = "bool" ∨ T = "str" ∨ T = "list" ∨ T = "tuple" ∨ T = "dict") : PySem.W.kitOne K (.type (tyD d)) (.type T) = some (isaD T d) := by
  rcases hT with rfl | rfl | rfl | rfl | rfl | rfl <;> cases d <;> (simp only [isaD, tyD]; exact kit_ty (by decide +kernel))
theorem isi_D {K : PySem.W.Frag} {a : Out} {H : Hp} {v : V} {d : PyData} {T : String} {Q : VK} (h : Dt a H v d) (q : Q (.bl (isaD T d)) H) (hT : T = "int" ∨ T = "bool" ∨ T = "str" ∨ T = "list" ∨ T = "tuple" ∨ T = "dict" := by simp) :
    rIsi K [v, .ty T] H Q := ⟨v, .ty T, _, _, _, rfl, .ty T, dt_ty h, kit_D d hT, q⟩
end Xci

namespace Xci
open PySem PySem.Spec PyProof.Rows L2
/-! what the program's judges say of any data -/
def intD : PyData → Bool
  | .int _ => true
  | _ => false
theorem intD_isa (d : PyData) : (isaD "int" d && !isaD "bool" d) = intD d := by cases d <;> (simp only [isaD, tyD, intD]; decide +kernel)
def btwD (lo hi : Int) : PyData → Bool
  | .int x => decide (lo ≤ x ∧ x ≤ hi)
  | _ => false
def cellFrom (n : Int) : Int → List PyData → Bool
  | _, [] => true
  | lo, .int x :: r => decide (lo ≤ x ∧ x ≤ n - 1) && cellFrom n (x + 1) r
  | _, _ :: _ => false
def cellD (n : Int) : PyData → Bool
  | .tuple ds => cellFrom n 0 ds
  | _ => false
def marksD : PyData → List Int
  | .tuple ds => ds.filterMap fun d => match d with
    | .int x => some x
    | _ => none
  | _ => []
def cellsD (n : Int) : PyData → Bool
  | .tuple ds => decide (1 ≤ ds.length ∧ ds.length ≤ 24) && (ds.all (cellD n) && decide (ds.map marksD).Nodup)
  | _ => false
def spIntD : Sp := fun vs H Q _ => ∃ (a : Out) (v : V) (d : PyData), vs = [v] ∧ Dt a H v d ∧ Q (.bl (intD d)) H
def spBtwD : Sp := fun vs H Q _ => ∃ (a : Out) (lo hi : Int) (v : V) (d : PyData), vs = [.int lo, .int hi, v] ∧ Dt a H v d ∧ Q (.bl (btwD lo hi d)) H
def spCellD : Sp := fun vs H Q _ => ∃ (a : Out) (n : Int) (v : V) (d : PyData), vs = [.int n, v] ∧ Dt a H v d ∧ Q (.bl (cellD n d)) H
def spCellsD : Sp := fun vs H Q _ => ∃ (a : Out) (n : Int) (v : V) (d : PyData), vs = [.int n, v] ∧ Dt a H v d ∧ Q (.bl (cellsD n d)) H
theorem isa_tup (d : PyData) : isaD "tuple" d = true ↔ ∃ ds, d = .tuple ds := by
  cases d <;> simp [isaD, isaT, tyD]
theorem isa_tup_not {d : PyData} (h : isaD "tuple" d ≠ true) : (∀ n, cellD n d = false) ∧ ∀ n, cellsD n d = false := by
  cases d <;> first | exact ⟨fun _ => rfl, fun _ => rfl⟩ | exact absurd ((isa_tup _).mpr ⟨_, rfl⟩) h
/-- a right cell is the tuple of its marks -/
theorem cellFrom_spec {n : Int} : ∀ {lo : Int} {ds : List PyData}, cellFrom n lo ds = true → ∃ ms : List Int, ds = ms.map .int ∧ ms.Pairwise (· < ·) ∧ (∀ m ∈ ms, lo ≤ m) ∧ ∀ m ∈ ms, m < n
  | _, [], _ => ⟨[], rfl, .nil, by simp, by simp⟩
  | lo, .int x :: r, h => by
    simp only [cellFrom, Bool.and_eq_true, decide_eq_true_eq] at h
    obtain ⟨⟨h1, h2⟩, h3⟩ := h
    obtain ⟨ms, rfl, up, lo', hi⟩ := cellFrom_spec h3
    refine ⟨x :: ms, rfl, List.pairwise_cons.mpr ⟨fun m hm => by have := lo' m hm; omega, up⟩, fun m hm => ?_, fun m hm => ?_⟩
    · rcases List.mem_cons.mp hm with rfl | hm
      · exact h1
      · have := lo' m hm; omega
    · rcases List.mem_cons.mp hm with rfl | hm
      · omega
      · exact hi m hm
  | _, .none :: _, h => by simp [cellFrom] at h
  | _, .bool _ :: _, h => by simp [cellFrom] at h
  | _, .str _ :: _, h => by simp [cellFrom] at h
  | _, .list _ :: _, h => by simp [cellFrom] at h
  | _, .tuple _ :: _, h => by simp [cellFrom] at h
  | _, .dict _ :: _, h => by simp [cellFrom] at h
theorem cellD_spec {n : Int} {d : PyData} (h : cellD n d = true) : ∃ ms : List Int, d = .tuple (ms.map .int) ∧ MarksOk n ms ∧ marksD d = ms := by
  cases d with
  | tuple ds =>
    obtain ⟨ms, rfl, up, lo, hi⟩ := cellFrom_spec h
    refine ⟨ms, rfl, ⟨up, lo, hi⟩, ?_⟩
    show (ms.map PyData.int).filterMap _ = ms
    rw [List.filterMap_map]
    exact List.filterMap_some
  | _ => cases h
theorem cellFrom_of {n : Int} : ∀ {lo : Int} {ms : List Int}, ms.Pairwise (· < ·) → (∀ m ∈ ms, lo ≤ m) → (∀ m ∈ ms, m < n) → cellFrom n lo (ms.map .int) = true
  | _, [], _, _, _ => rfl
  | lo, m :: r, up, h1, h2 => by
    obtain ⟨u1, u2⟩ := List.pairwise_cons.mp up
    have a1 := h1 m (List.mem_cons_self ..)
    have a2 := h2 m (List.mem_cons_self ..)
    simp only [List.map_cons, cellFrom, Bool.and_eq_true, decide_eq_true_eq]
    exact ⟨⟨a1, by omega⟩, cellFrom_of u2 (fun k hk => by have := u1 k hk; omega) fun k hk => h2 k (List.mem_cons_of_mem _ hk)⟩
theorem dt_tup {a : Out} {H : Hp} {v : V} {ds : List PyData} (h : Dt a H v (.tuple ds)) : ∃ p xs, v = .ref p ∧ ¬ a p ∧ H p = some (.tup xs) ∧ DtAll a H xs ds := by
  cases h with
  | tup n h r => exact ⟨_, _, rfl, n, h, r⟩
theorem dt_ints {a : Out} {H : Hp} : ∀ {ms : List Int} {xs : List V}, DtAll a H xs (ms.map .int) → xs = ms.map V.int
  | [], _, .nil => rfl
  | m :: r, _, .cons h rs => by
    cases h
    rw [dt_ints rs]
    rfl
theorem dt_cell {a : Out} {H : Hp} {v : V} {n : Int} {d : PyData} (h : Dt a H v d) (c : cellD n d = true) : ∃ ms, MarksOk n ms ∧ marksD d = ms ∧ Xci.Mk H v ms := by
  obtain ⟨ms, rfl, ok, e⟩ := cellD_spec c
  obtain ⟨p, xs, rfl, _, hp, r⟩ := dt_tup h
  rw [dt_ints r] at hp
  exact ⟨ms, ok, e, p, rfl, hp⟩
theorem dt_cells {a : Out} {H : Hp} {n : Int} : ∀ {xs : List V} {ds : List PyData}, DtAll a H xs ds → ds.all (cellD n) = true → Mks H xs (ds.map marksD) ∧ ∀ c ∈ ds.map marksD, MarksOk n c
  | _, _, .nil, _ => ⟨.nil, fun _ h => nomatch h⟩
  | _, _, .cons h rs, c => by
    simp only [List.all_cons, Bool.and_eq_true] at c
    obtain ⟨ms, ok, e, m⟩ := dt_cell h c.1
    obtain ⟨q1, q2⟩ := dt_cells rs c.2
    refine ⟨.cons (by rw [e]; exact m) q1, fun k hk => ?_⟩
    rcases List.mem_cons.mp hk with rfl | hk
    · rw [e]; exact ok
    · exact q2 k hk
theorem all_at {α : Type} {p : α → Bool} {xs : List α} {i : Nat} {x : α} (h : xs[i]? = some x) (hp : p x = false) : xs.all p = false := by
  rw [Bool.eq_false_iff]
  intro z
  have := List.all_eq_true.mp z x (List.mem_of_getElem? h)
  rw [hp] at this
  cases this
end Xci

namespace Xci
open PySem PySem.Spec PyProof.Rows L2
/-! a tuple turned about by a slice -/
section
variable {prog : Program} {w : World} {A : Around} {E : Value → Shared → Prop} {s : Shared}
theorem back_bounds (n : Nat) : Builtin.Slice.sliceAdjust none none (-1) (n : Int) = ((n : Int) - 1, -1) := by
  unfold Builtin.Slice.sliceAdjust
  rfl
theorem back_places (n : Nat) : Builtin.Slice.slicePlaces ((n : Int) - 1) (-1) (-1) = n := by
  unfold Builtin.Slice.slicePlaces
  have h : ¬ ((-1 : Int) > 0) := by decide
  simp only [h, if_false, Int.neg_neg, Int.ediv_one]
  split <;> omega
theorem filterMap_told {α β : Type} {f : α → Option β} {g : α → β} : ∀ {l : List α}, (∀ x ∈ l, f x = some (g x)) → l.filterMap f = l.map g
  | [], _ => rfl
  | x :: r, h => by
    rw [List.filterMap_cons, h x (List.mem_cons_self ..), List.map_cons, filterMap_told fun y hy => h y (List.mem_cons_of_mem _ hy)]
theorem back_pick (xs : Array Value) : ((List.range xs.size).filterMap fun (k : Nat) => xs[((xs.size : Int) - 1 + (k : Int) * (-1)).toNat]?).toArray = xs.toList.reverse.toArray := by
  congr 1
  have all : (List.range xs.size).filterMap (fun (k : Nat) => xs[((xs.size : Int) - 1 + (k : Int) * (-1)).toNat]?) = (List.range xs.size).map fun k => xs.toList.reverse[k]?.getD .none := by
    refine filterMap_told fun k hk => ?_
    have hk := List.mem_range.mp hk
    have e : ((xs.size : Int) - 1 + (k : Int) * (-1)).toNat = xs.size - 1 - k := by omega
    have l : k < xs.toList.reverse.length := by simpa using hk
    rw [e, List.getElem?_eq_getElem l, List.getElem_reverse, Array.getElem?_eq_getElem (by omega)]
    simp
  rw [all]
  refine List.ext_getElem (by simp) fun i h1 h2 => ?_
  rw [List.getElem_map, List.getElem_range, List.getElem?_eq_getElem h2]
  rfl
theorem getItem_back {t sl : Addr} {items : Array Value} {vl vu vs : Value} {Q : Value → Shared → Prop} (ht : IsTup s.heap t items) (hs : s.heap.IsSliceOf sl vl vu vs) (pl : IsPart vl none) (pu : IsPart vu none) (ps : IsPart vs (some (-1)))
    (h : Q (.ref s.heap.objs.size) { s with heap := s.heap.push { cls := .type "tuple", data := .seq items.toList.reverse.toArray } }) (hsz : items.size ≤ sizeLine) : wpAny (model prog w) A (getItem (.ref t) (.ref sl)) Q E s := by
  have room : sizeOk (.seq items.toList.reverse.toArray) := by
    show items.toList.reverse.toArray.size ≤ sizeLine
    simpa using hsz
  obtain ⟨os, hos, hcs, hds⟩ := id hs
  have hTs : s.TypeIs (.ref sl) "slice" := ⟨os, hos, hcs⟩
  have app : ∀ {A' : Around} {E' : Value → Shared → Prop} {Q' : Int × Int × Nat → Shared → Prop}, Q' ((items.size : Int) - 1, -1, items.size) s → wpAny (model prog w) A' (Builtin.Slice.sliceApplied (.ref sl) (pure (items.size : Int))) Q' E' s := fun {A' E' Q'} q => by
    unfold Builtin.Slice.sliceApplied Builtin.Slice.sliceFields
    refine wpAny_bind (wpAny_bind (wpAny_field hos hds (x := vl) rfl (wpAny_bind (wpAny_field hos hds (x := vu) rfl (wpAny_bind (wpAny_field hos hds (x := vs) rfl (wpAny_pure ?_)))))))
    refine wpAny_bind (HT.slicePart_ ps ?_)
    show wpAny _ _ (if ((-1 : Int) == 0) = true then _ else _) _ _ s
    rw [if_neg (by decide)]
    refine wpAny_bind (HT.slicePart_ pl (wpAny_bind (HT.slicePart_ pu (wpAny_bind (wpAny_pure ?_)))))
    show wpAny _ _ (match Builtin.Slice.sliceAdjust none none (-1) (items.size : Int) with | (lo, hi) => pure (lo, (-1 : Int), Builtin.Slice.slicePlaces lo hi (-1))) _ _ s
    rw [back_bounds]
    show wpAny _ _ (pure ((items.size : Int) - 1, (-1 : Int), Builtin.Slice.slicePlaces ((items.size : Int) - 1) (-1) (-1))) _ _ s
    rw [back_places]
    exact wpAny_pure q
  unfold getItem
  try with_reducible refine wpAny_holding ?_
  first | refine wpAny_bind (wpAny_pure ?_) | skip
  refine wpAny_bind (wpAny_sequenceKey ht.typeIs (by decide) ?_)
  refine wpAny_bind (wpAny_callSpecial?_slot (name := Str.ofString "__getitem__") ht.typeIs PyProof.Rows.slot_tuple_getitem (wpAny_call_entry PyProof.Rows.slot_tuple_getitem ht.typeIs entry_tuple_getitem ?_ (args_tuple_getitem _ _)))
  show wpAny _ _ (Builtin.Tuple.tupleItemsOf (.ref t) >>= _) _ _ s
  refine wpAny_bind (tupleItemsOf_ ht (wpAny_bind (wpAny_typeOf hTs ?_)))
  rw [if_pos (by decide)]
  refine wpAny_bind (app ?_)
  show wpAny _ _ (if (((items.size : Int) - 1) == 0 && ((-1 : Int) == 1) && items.size == items.size) = true then _ else _) _ _ s
  rw [show ((-1 : Int) == 1) = false from by decide, Bool.and_false, Bool.false_and, if_neg Bool.false_ne_true, back_pick]
  first
    | exact wpAny_bind (m := Builtin.Tuple.tupleExact _) (wpAny_newObj_type (wpAny_pure ⟨_, rfl, wpAny_pure h⟩) room)
    | exact wpAny_bind (m := Builtin.Tuple.tupleExact _) (wpAny_newObj_type (wpAny_bind (wpAny_pure (wpAny_pure ⟨_, rfl, wpAny_pure h⟩))) room)
    | exact wpAny_bind (wpAny_bind (m := Builtin.Tuple.tupleExact _) (wpAny_newObj_type (wpAny_pure (wpAny_pure ⟨_, rfl, wpAny_pure h⟩)) room))
    | exact wpAny_bind (wpAny_bind (m := Builtin.Tuple.tupleExact _) (wpAny_newObj_type (wpAny_pure ⟨_, rfl, wpAny_pure h⟩) room))
end
def tRevT (K : PySem.W.Frag) (te : TE) : TE := fun σ H Q => te σ H fun x H1 => ∃ a xs, x = .ref a ∧ SqT K H1 a xs ∧ ∀ p, H1 p = none → Q (.ref p) (upd H1 p (.tup xs.reverse))
theorem pe_revT {X : Cx} {e : Expr} {te : TE} {k : Nat} {p1 p2 p3 pos : Pos} (he : PE X e te) : PE X (.Subscript e (.Slice none none (some (.UnaryOp .USub (.Constant (.int 1) k p1) p2)) p3) pos) (tRevT X.K te) := by
  refine ⟨fun pins s σ H Q I h => Subscript_ (thn (he.run pins s σ H _ I h) fun v s1 ⟨x, H1, I1, r1, a, xs, ex, hx, q⟩ => ?_)⟩
  subst ex
  cases r1
  have step : PO X (some (.UnaryOp .USub (.Constant (.int 1) k p1) p2)) (tPart (tUn (rU fun i => .int (-i)) (tC (.int 1)))) := po_some (pe_un un_neg pe_int)
  refine wpAny_Slice (thn (po_none.run pins s1 σ H1 (fun o H2 => o = none ∧ H2 = H1) I1 ⟨rfl, rfl⟩) fun vl s2 ⟨l, H2, I2, pl, el, e2⟩ => ?_)
  subst el e2
  refine thn (po_none.run pins s2 σ H2 (fun o H3 => o = none ∧ H3 = H2) I2 ⟨rfl, rfl⟩) fun vu s3 ⟨u, H3, I3, pu, eu, e3⟩ => ?_
  subst eu e3
  refine thn (step.run pins s3 σ H3 (fun o H4 => o = some (-1) ∧ H4 = H3) I3 ⟨1, rfl, -1, rfl, rfl, rfl⟩) fun vs s4 ⟨o, H4, I4, ps, eo, e4⟩ => ?_
  subst eo e4
  have J : Inv X pins σ H4 { s4 with heap := s4.heap.push { cls := .type "slice", data := .fields #[vl, vu, vs] } } := I4.kept (t' := s4.toks) fun b ob z => Heap.get?_push_of_some _ z
  obtain ⟨its, r, ht, hz⟩ := J.tuple hx
  have size : its.toArray.size = xs.length := by rw [List.size_toArray]; exact r.length.symm
  show wpAny (model X.prog X.w) X.A (subscriptTail e _ (.ref a) (.ref s4.heap.objs.size)) (EP X pins σ Q) X.xe _
  refine tail_any (ops := [.ref a, .ref s4.heap.objs.size]) ht.typeIs PyProof.Rows.slot_tuple_getitem.lookup ?_ (by with_unfolding_all rfl)
  refine getItem_back ht (Heap.IsSliceOf.new _ vl vu vs) pl pu ps ?_ (by rw [size]; exact hz)
  refine ⟨.ref _, _, J.laid (t' := s4.toks) (o := .tup xs.reverse) (fun b ob z => Heap.get?_push_of_some _ z) (Nat.le_refl _) ?_, rfl, q _ (J.hok.fresh (Nat.le_refl _))⟩
  exact ⟨by rw [List.length_reverse]; exact hz, _, r.reverse, IsTup.new _ _⟩
end Xci

namespace Xci
open PySem L2
abbrev letters : Str := "abcdefghijklmnopqrstuvwxyz"
def spFresh : Sp := fun vs H Q _ => ∃ (a l q : Addr) (zs : List Str), vs = [.ref a, .str letters, .ref q] ∧ Src H a l ∧ H q = some (.lst (zs.map V.str)) ∧ q ≠ a ∧ q ≠ l ∧ zs.length < 26 ∧
  ∀ (z : Str) (H' : Hp), WordOk z → z ∉ zs → Src H' a l → Fr2 a l H H' → Q (.str z) H'
theorem fresh_at {j : Nat} (h : j < 8) : ∃ n : Int, ([V.int 1, .int 1, .int 2, .int 1, .int 3, .int 2, .int 8, .int 5] : List V)[j]? = some (.int n) ∧ 1 ≤ n ∧ n ≤ 8 := by
  have : ∀ j : Fin 8, ∃ n : Fin 8, ([V.int 1, .int 1, .int 2, .int 1, .int 3, .int 2, .int 8, .int 5] : List V)[j.val]? = some (.int ((n.val : Int) + 1)) := by decide
  obtain ⟨n, e⟩ := this ⟨j, h⟩
  exact ⟨_, e, by omega, by omega⟩
theorem letters_are : letters.cps.toList = (List.range 26).map (97 + ·) := by decide +kernel
theorem str_joined (cs : List Nat) : (PySem.Txt.join (PySem.Str.ofString "") (cs.map fun c => (⟨#[c]⟩ : Str))).cps.toList = cs := by
  show (Builtin.Str.glued (PySem.Str.ofString "") _).cps.toList = _
  rw [StrLaws.glued_eq_join]
  induction cs with
  | nil => rfl
  | cons c r ih =>
    cases r with
    | nil => rfl
    | cons d r =>
      show ((⟨#[c]⟩ : Str) ++ PySem.Str.ofString "" ++ PySem.Str.join (PySem.Str.ofString "") ((d :: r).map fun c => (⟨#[c]⟩ : Str))).cps.toList = _
      have e : ∀ a b : Str, (a ++ b).cps = a.cps ++ b.cps := fun _ _ => rfl
      rw [e, e, Array.toList_append, Array.toList_append, ih]
      rfl
theorem ones_sum (cs : List Nat) : ((cs.map fun c => (⟨#[c]⟩ : Str)).map (·.length)).sum = cs.length := by
  induction cs with
  | nil => rfl
  | cons c r ih =>
    rw [List.map_cons, List.map_cons, List.sum_cons, ih, List.length_cons]
    have : (⟨#[c]⟩ : Str).length = 1 := rfl
    rw [this]
    omega
theorem cut7 (z : Str) : (cutS z none (some 7)).cps.toList = z.cps.toList.take 7 := by
  unfold cutS
  have e0 : HT.sIx z.length 0 none = 0 := rfl
  rw [e0, show (some (7 : Int)) = some ((7 : Nat) : Int) from rfl, HT.sIx_nat, List.drop_zero, Nat.sub_zero]
  show (List.take (min 7 z.length) z.cps.toList).toArray.toList = _
  rw [List.toList_toArray, Nat.min_comm, ← List.take_take]
  exact List.take_of_length_le (by rw [List.length_take, show z.length = z.cps.toList.length from Array.length_toList.symm]; omega)
theorem len7 {z : Str} (w : WordOk z) : 1 ≤ (cutS z none (some 7)).length ∧ (cutS z none (some 7)).length ≤ 7 := by
  have e : (cutS z none (some 7)).length = (z.cps.toList.take 7).length := by rw [← cut7]; exact Array.length_toList.symm
  have l : z.cps.toList.length = z.length := Array.length_toList
  rw [e, List.length_take, l]
  have := w.lo
  omega
theorem cat_word {p : Str} {c : Nat} (lo : 1 ≤ p.length) (hi : p.length ≤ 7) (az : ∀ c ∈ p.cps.toList, 97 ≤ c ∧ c ≤ 122) (hc : 97 ≤ c ∧ c ≤ 122) : WordOk (p ++ (⟨#[c]⟩ : Str)) := by
  have e : (p ++ (⟨#[c]⟩ : Str)).cps.toList = p.cps.toList ++ [c] := by
    show (p.cps ++ #[c]).toList = _
    rw [Array.toList_append]
  have l : (p ++ (⟨#[c]⟩ : Str)).length = p.length + 1 := by
    show (p ++ (⟨#[c]⟩ : Str)).cps.size = _
    rw [← Array.length_toList, e, List.length_append, Array.length_toList]
    rfl
  refine ⟨by omega, by omega, fun x hx => ?_⟩
  rw [e] at hx
  rcases List.mem_append.mp hx with h | h
  · exact az x h
  · rw [List.mem_singleton.mp h]; exact hc
/-- of 26 unlike words, fewer others leave one -/
theorem one_left {p : Str} {zs : List Str} (few : zs.length < 26) : ((letters.cps.toList.map fun c => p ++ (⟨#[c]⟩ : Str)).filter fun z => !decide (z ∈ zs)) ≠ [] := by
  intro h
  have nd : (letters.cps.toList.map fun c => p ++ (⟨#[c]⟩ : Str)).Nodup := by
    rw [letters_are, List.map_map]
    refine List.pairwise_map.mpr (List.Pairwise.imp (fun {a b} ne e => ne ?_) List.nodup_range)
    have app : ∀ c : Nat, (p ++ (⟨#[c]⟩ : Str)).cps.toList = p.cps.toList ++ [c] := fun c => by
      show (p.cps ++ #[c]).toList = _
      rw [Array.toList_append]
    have q : (p ++ (⟨#[97 + a]⟩ : Str)).cps.toList = (p ++ (⟨#[97 + b]⟩ : Str)).cps.toList := congrArg (fun s : Str => s.cps.toList) e
    rw [app, app, List.append_cancel_left_eq] at q
    have := (List.cons.inj q).1
    omega
  have le := List.Nodup.length_le_of_subset nd (l₂ := zs) fun z hz => by
    have := List.filter_eq_nil_iff.mp h z hz
    simpa using this
  rw [List.length_map, letters_are, List.length_map, List.length_range] at le
  omega
section
variable {P : Program} {w : World} {K : PySem.W.Frag} {mg : Str → Option Value} {base : Heap}
abbrev sLawFresh : Stmt := top 63
theorem scLawFresh : FnScope ["source", "signs", "taken", "many", "word", "turn", "sign"] ["source", "signs", "taken"] (defScope sLawFresh) := ⟨rfl, rfl, rfl, by decide +kernel, rfl, by decide +kernel, by decide +kernel⟩
set_option maxHeartbeats 2000000 in
theorem ok_fresh {f : Addr} {fd : FuncData} (F : Fun K "_law_fresh" "_law_fresh" sLawFresh f fd) (T : Txt mg) (HR : Has P w K mg base "_law_roll" ["source", "many"] 1 spRoll) : FnOk P w K mg base CX0 2 f fd ["source", "signs", "taken"] spFresh := by
  refine F.ok scLawFresh (fun vs H Q E h => ?_) (fun cdv A outer s H vs Q E hr h => ?_)
  · obtain ⟨a, l, q, zs, rfl, _⟩ := h
    rfl
  · obtain ⟨a, l, q, zs, rfl, hd, hq, nqa, nql, few, k⟩ := h
    refine ⟨_, (pss_cons (ps_set (i := 3) scLawFresh.nd rfl (by first | exact Or.inl rfl | exact Or.inr rfl) (pe_ix ix_tup (pe_tup (pa_cons pe_int (pa_cons pe_int (pa_cons pe_int (pa_cons pe_int (pa_cons pe_int (pa_cons pe_int (pa_cons pe_int (pa_cons pe_int pa_nil))))))))) (pe_callH HR (hr.mono (by decide)) rfl (pa_cons (pv 0) (pa_cons pe_int pa_nil))) (fun _ _ => rfl)))
      (pss_cons (ps_set (i := 4) scLawFresh.nd rfl (by first | exact Or.inl rfl | exact Or.inr rfl) (pe_bm PySem.F.plainAttrs_str PySem.F.slot_str_join PySem.F.type_str_join mt_join pe_str (pa_cons (pe_lc (own := [("turn", 5)]) rfl scLawFresh.nd (pi_range1 rfl T.range (pa_cons (pv 3) pa_nil)) (blkOk_by (N := ["source", "signs", "taken", "many", "word", "turn", "sign"]) (sc := defScope sLawFresh) (by decide +kernel)) (fun _ _ _ _ _ => (pg_name (i := 5) scLawFresh.nd rfl (by first | exact Or.inl rfl | exact Or.inr rfl))) (fun _ _ _ _ _ => pts_nil) (fun _ _ _ _ _ => (pe_ix ix_str (pv 1) (pe_callH HR (hr.mono (by decide)) rfl (pa_cons (pv 0) (pa_cons pe_int pa_nil))) (fun _ _ => rfl)))) pa_nil)))
      (pss_cons (ps_if (pt_cmpR op_notIn_seq (pv 4) (pv 2) (by with_unfolding_all rfl)) (pss_one (ps_ret (pv 4))) pss_nil)
      (pss_one (ps_ret (pe_ix ix_list (pe_lc (own := [("sign", 6)]) rfl scLawFresh.nd (pi_str (pv 1)) (blkOk_by (N := ["source", "signs", "taken", "many", "word", "turn", "sign"]) (sc := defScope sLawFresh) (by decide +kernel)) (fun _ _ _ _ _ => (pg_name (i := 6) scLawFresh.nd rfl (by first | exact Or.inl rfl | exact Or.inr rfl))) (fun _ _ _ _ _ => pts_one (pt_cmpR (show OpR _ _ (rIn K true) from op_notIn_seq) (pe_op op_add_str (pe_slice sl_str (pv 4) po_none (po_some pe_int)) (pv 6)) (pv 2) (by with_unfolding_all rfl))) (fun _ _ _ _ _ => (pe_op op_add_str (pe_slice sl_str (pv 4) po_none (po_some pe_int)) (pv 6)))) pe_int (fun _ _ => rfl))))))), ?_⟩
    refine ⟨(by show 8 ≤ sizeLine; decide), fun t ht => ?_⟩
    have et : (upd H t (.tup [.int 1, .int 1, .int 2, .int 1, .int 3, .int 2, .int 8, .int 5])) t = some (.tup [.int 1, .int 1, .int 2, .int 1, .int 3, .int 2, .int 8, .int 5]) := upd_same
    have s1 : Same H (upd H t (.tup [.int 1, .int 1, .int 2, .int 1, .int 3, .int 2, .int 8, .int 5])) := Same.new ht
    generalize upd H t (.tup [.int 1, .int 1, .int 2, .int 1, .int 3, .int 2, .int 8, .int 5]) = H1 at *
    have hd1 := hd.keep s1
    refine ⟨_, rfl, a, l, _, rfl, hd1, by decide, by decide, fun d H2 d0 d1 hd2 f2 => ?_⟩
    obtain ⟨j, ej⟩ : ∃ j : Nat, d = (j : Int) := ⟨d.toNat, by omega⟩
    subst ej
    obtain ⟨m, em, m0, m1⟩ := fresh_at (j := j) (by omega)
    refine ⟨t, _, _, _, rfl, rfl, sqT (hd1.tfr f2 _ _ et), at_of rfl em, ?_⟩
    have f02 : Fr2 a l H H2 := (Fr2.same s1).trans f2
    have hq2 := f02 _ _ hq nqa nql
    clear et s1 ht f2 hd1
    refine ⟨rfl, _, rfl, _, rfl, by omega, by omega, fun D hD => ?_⟩
    have hD0 := hd2.free f02 hD
    have nDa := hd2.ne hD
    have nDl := hd2.ne' hD
    refine lc_range (n := m.toNat) (fun i H4 => ∃ cs : List Nat, Src H4 a l ∧ Fr2 a l H H4 ∧ H4 D = some (.lst ((cs.map fun c => (⟨#[c]⟩ : Str)).map V.str)) ∧ cs.length = i ∧ ∀ c ∈ cs, 97 ≤ c ∧ c ≤ 122) ⟨[], hd2.keep (Same.new hD), f02.trans (Fr2.new hD), upd_same, rfl, by simp⟩ ?_ ?_
    · rintro i H4 hi ⟨cs, hd4, f4, e4, hl, hz⟩
      refine ⟨rfl, _, rfl, _, rfl, a, l, _, rfl, hd4, by decide, by decide, fun d H5 d0 d1 hd5 f5 => ?_⟩
      obtain ⟨j, ej⟩ : ∃ j : Nat, d = (j : Int) := ⟨d.toNat, by omega⟩
      subst ej
      have hj : j < 26 := by omega
      have lj : letters.cps.toList[j]? = some (97 + j) := by rw [letters_are, List.getElem?_map, List.getElem?_range hj]; rfl
      refine ⟨_, _, _, rfl, rfl, by decide +kernel, atI_nat lj, _, f5 _ _ e4 nDa nDl, by rw [List.length_map, List.length_map]; exact small1000 (by omega), ?_⟩
      refine ⟨cs ++ [97 + j], hd5.put nDa nDl, fun b o h n n' => ?_, by rw [upd_same, List.map_append, List.map_append]; rfl, by rw [List.length_append, hl]; rfl, fun c hc => ?_⟩
      · rw [upd_ne (ne_of_none h hD0)]; exact f5 _ _ (f4 _ _ h n n') n n'
      · rcases List.mem_append.mp hc with q | q
        · exact hz c q
        · rw [List.mem_singleton.mp q]; omega
    · rintro H4 ⟨cs, hd4, f4, e4, hl, hz⟩
      refine ⟨_, D, _, rfl, rfl, .inl (SqL.of e4), ?_, ?_⟩
      · rw [ones_sum, List.length_map]
        have : (Str.ofString "").length = 0 := by decide
        rw [this]
        omega
      have el := str_joined cs
      have ez : (PySem.Txt.join (PySem.Str.ofString "") (cs.map fun c => (⟨#[c]⟩ : Str))).length = cs.length := by
        show (PySem.Txt.join (PySem.Str.ofString "") (cs.map fun c => (⟨#[c]⟩ : Str))).cps.size = _
        rw [← Array.length_toList, el]
      have wd : WordOk (PySem.Txt.join (PySem.Str.ofString "") (cs.map fun c => (⟨#[c]⟩ : Str))) := ⟨by rw [ez]; omega, by rw [ez]; omega, fun c hc => hz c (by rw [el] at hc; exact hc)⟩
      generalize PySem.Txt.join (PySem.Str.ofString "") (cs.map fun c => (⟨#[c]⟩ : Str)) = z at *
      have hq4 := f4 _ _ hq nqa nql
      refine ⟨_, rfl, _, rfl, q, _, rfl, .inl (SqL.of hq4), rfl, flat_strs zs, _, rfl, ?_⟩
      rw [inV_str]
      refine ite2 (fun hn => ?_) (fun hn => ?_)
      · exact ⟨_, rfl, k z H4 wd (by simpa using hn) hd4 f4⟩
      clear hn e4 hl hz el ez
      have s8 : 8 ≤ sizeLine := by decide
      obtain ⟨lo, hi7⟩ := len7 wd
      have wl := wd.hi
      have az7 : ∀ c ∈ (cutS z none (some 7)).cps.toList, 97 ≤ c ∧ c ≤ 122 := fun c hc => wd.az c (by rw [cut7] at hc; exact List.mem_of_mem_take hc)
      have left := one_left (p := cutS z none (some 7)) few
      have z1 : z.length ≤ sizeLine := by omega
      refine ⟨_, rfl, _, rfl, fun D2 hD2 => ?_⟩
      have nD2a := hd4.ne hD2
      have nD2l := hd4.ne' hD2
      have sz : letters.cps.size = 26 := by decide +kernel
      have lz : ∀ i, letters.cps[i]? = letters.cps.toList[i]? := fun i => (Array.getElem?_toList ..).symm
      refine lc_it (walk_str (z := letters)) (fun i H5 => H5 D2 = some (.lst ((((letters.cps.toList.take i).map fun c => cutS z none (some 7) ++ (⟨#[c]⟩ : Str)).filter fun y => !decide (y ∈ zs)).map V.str)) ∧ Same H4 H5) ⟨upd_same, Same.new hD2⟩ (fun _ _ _ _ => trivial) ?_ ?_
      · rintro i y H5 H6 hi ⟨e5, s5⟩ ⟨rfl, c, hc, rfl⟩
        rw [lz] at hc
        have az : 97 ≤ c ∧ c ≤ 122 := by
          have := List.mem_of_getElem? hc
          rw [letters_are] at this
          obtain ⟨j, hj, rfl⟩ := List.mem_map.mp this
          have := List.mem_range.mp hj
          omega
        have nx : ((letters.cps.toList.take (i + 1)).map fun c => cutS z none (some 7) ++ (⟨#[c]⟩ : Str)).filter (fun y => !decide (y ∈ zs)) = ((letters.cps.toList.take i).map fun c => cutS z none (some 7) ++ (⟨#[c]⟩ : Str)).filter (fun y => !decide (y ∈ zs)) ++ (if (!decide (cutS z none (some 7) ++ (⟨#[c]⟩ : Str) ∈ zs)) = true then [cutS z none (some 7) ++ (⟨#[c]⟩ : Str)] else []) := by
          rw [List.take_add_one, hc, List.map_append, List.filter_append]
          show _ ++ [_].filter _ = _
          rw [List.filter_cons, List.filter_nil]
        have l1 : (⟨#[c]⟩ : Str).length = 1 := rfl
        have few2 : (((letters.cps.toList.take i).map fun c => cutS z none (some 7) ++ (⟨#[c]⟩ : Str)).filter (fun y => !decide (y ∈ zs))).length ≤ 26 := by
          refine Nat.le_trans (List.length_filter_le _ _) ?_
          rw [List.length_map, List.length_take, Array.length_toList, sz]
          omega
        refine ⟨rfl, _, rfl, _, rfl, _, rfl, z1, _, rfl, _, _, rfl, rfl, by omega, _, rfl, q, _, rfl, .inl (SqL.of (s5 _ _ hq4)), rfl, flat_strs zs, _, rfl, ?_⟩
        rw [inV_str, nx]
        refine ite2 (fun hn => ?_) (fun hn => ?_)
        · refine ⟨_, rfl, _, rfl, _, rfl, z1, _, rfl, _, _, rfl, rfl, by omega, _, e5, by rw [List.length_map]; exact small1000 (by omega), ?_, fun b o h => by rw [upd_ne (ne_of_none h hD2)]; exact s5 _ _ h⟩
          rw [upd_same, if_pos (by simpa using hn), List.map_append]
          rfl
        · rw [if_neg (by simpa using hn), List.append_nil]
          exact ⟨e5, s5⟩
      · rintro H5 ⟨e5, s5⟩
        rw [show letters.cps.size = letters.cps.toList.length from Array.length_toList.symm, List.take_length] at e5
        obtain ⟨y, r, er⟩ : ∃ y r, (letters.cps.toList.map fun c => cutS z none (some 7) ++ (⟨#[c]⟩ : Str)).filter (fun y => !decide (y ∈ zs)) = y :: r := by
          cases h : (letters.cps.toList.map fun c => cutS z none (some 7) ++ (⟨#[c]⟩ : Str)).filter (fun y => !decide (y ∈ zs)) with
          | nil => exact absurd h left
          | cons y r => exact ⟨y, r, rfl⟩
        rw [er] at e5
        have my : y ∈ (letters.cps.toList.map fun c => cutS z none (some 7) ++ (⟨#[c]⟩ : Str)).filter (fun y => !decide (y ∈ zs)) := by rw [er]; exact List.mem_cons_self
        obtain ⟨m1, m2⟩ := List.mem_filter.mp my
        obtain ⟨c, hc, rfl⟩ := List.mem_map.mp m1
        rw [letters_are] at hc
        obtain ⟨j, hj, rfl⟩ := List.mem_map.mp hc
        have := List.mem_range.mp hj
        refine ⟨D2, _, _, _, rfl, rfl, SqL.of e5, at_of (j := 0) rfl rfl, ?_⟩
        exact k _ H5 (cat_word lo hi7 az7 (by omega)) (by simpa using m2) (hd4.keep s5) (f4.trans (Fr2.same s5))
end
end Xci

namespace Xci
open PySem L2
def spWordsS : Sp := fun vs H Q _ => ∃ (a l : Addr) (n : Nat), vs = [.ref a, .int (n : Int)] ∧ Src H a l ∧ n < 26 ∧
  ∀ (q : Addr) (zs : List Str) (H' : Hp), zs.length = n → zs.Nodup → (∀ z ∈ zs, WordOk z) → H' q = some (.lst (zs.map V.str)) → H q = none → Src H' a l → Fr2 a l H H' → Q (.ref q) H'
/-- a pair of marks, which are some of a cell's, and a word -/
def EntS (H : Hp) (v : V) (cells : List (List Int)) (z : Str) : Prop := ∃ (p : Addr) (ks c : List Int), Tup H v [.ref p, .str z] ∧ H p = some (.tup (ks.map V.int)) ∧ c ∈ cells ∧ ks.Sublist c
theorem EntS.keep {H H' : Hp} {v : V} {cells : List (List Int)} {z : Str} (f : TFr H H') (h : EntS H v cells z) : EntS H' v cells z := by
  obtain ⟨p, ks, c, a, b, d, e⟩ := h
  exact ⟨p, ks, c, a.keep f, f _ _ b, d, e⟩
def spEntryS : Sp := fun vs H Q _ => ∃ (a l pc : Addr) (ys : List V) (cells : List (List Int)) (z : Str), vs = [.ref a, .ref pc, .str z] ∧ Src H a l ∧ H pc = some (.tup ys) ∧ Mks H ys cells ∧ cells ≠ [] ∧ cells.length ≤ 64 ∧ (∀ c ∈ cells, c.length ≤ 64) ∧
  ∀ (v : V) (H' : Hp), EntS H' v cells z → Src H' a l → Fr2 a l H H' → Q v H'
section
variable {P : Program} {w : World} {K : PySem.W.Frag} {mg : Str → Option Value} {base : Heap}
abbrev sLawWords : Stmt := top 68
theorem scLawWords : FnScope ["source", "many", "found", "turn"] ["source", "many"] (defScope sLawWords) := ⟨rfl, rfl, rfl, by decide +kernel, rfl, by decide +kernel, by decide +kernel⟩
theorem ok_wordsS {f : Addr} {fd : FuncData} (F : Fun K "_law_words" "_law_words" sLawWords f fd) (T : Txt mg) (HFr : Has P w K mg base "_law_fresh" ["source", "signs", "taken"] 2 spFresh) : FnOk P w K mg base CX0 3 f fd ["source", "many"] spWordsS := by
  refine F.ok scLawWords (fun vs H Q E h => ?_) (fun cdv A outer s H vs Q E hr h => ?_)
  · obtain ⟨a, l, n, rfl, _⟩ := h
    rfl
  · obtain ⟨a, l, n, rfl, hd, hn, k⟩ := h
    refine ⟨_, (pss_cons (ps_set (i := 2) scLawWords.nd rfl (by first | exact Or.inl rfl | exact Or.inr rfl) (pe_lst pa_nil))
      (pss_cons (ps_for PassesOwn.never rfl (pi_range1 rfl T.range (pa_cons (pv 1) pa_nil)) (pg_name (i := 3) scLawWords.nd rfl (by first | exact Or.inl rfl | exact Or.inr rfl)) (pss_one (ps_expr (pe_bm PySem.F.plainAttrs_list PySem.F.slot_list_append PySem.F.type_list_append mt_append (pv 2) (pa_cons (pe_callH HFr (hr.mono (by decide)) rfl (pa_cons (pv 0) (pa_cons pe_str (pa_cons (pv 2) pa_nil)))) pa_nil)))))
      (pss_one (ps_ret (pv 2))))), ?_⟩
    refine ⟨Nat.zero_le _, fun q hq => ?_⟩
    have d1 : Src (upd H q (.lst [])) a l := hd.keep (Same.new hq)
    have f1 : Fr2 a l H (upd H q (.lst [])) := Fr2.new hq
    have nq := hd.ne hq
    have mq := hd.ne' hq
    have eq : (upd H q (.lst [])) q = some (.lst []) := upd_same
    generalize upd H q (.lst []) = H1 at *
    refine ⟨_, rfl, _, rfl, by omega, by omega, ?_⟩
    refine for_range (n := ((n : Nat) : Int).toNat) (fun i σ H3 => ∃ (zs : List Str) (v : Option V), σ = [some (.ref a), some (.int (n : Int)), some (.ref q), v] ∧ H3 q = some (.lst (zs.map V.str)) ∧ Src H3 a l ∧ Fr2 a l H H3 ∧ zs.length = i ∧ zs.Nodup ∧ ∀ z ∈ zs, WordOk z)
      ⟨[], none, rfl, eq, d1, f1, rfl, by simp, by simp⟩ ?_ ?_
    · rintro i σ H3 hi ⟨zs, v, rfl, e3, hd3, f3, hl, hnd, hz⟩
      refine ⟨_, rfl, .inl ⟨rfl, _, SqL.of e3⟩, _, rfl, _, rfl, a, l, q, zs, rfl, hd3, e3, nq, mq, by omega, fun z H4 wz nz hd4 f4 => ?_⟩
      have e4 := f4 _ _ e3 nq mq
      refine ⟨q, _, _, rfl, rfl, e4, by rw [List.length_map]; exact small1000 (by omega), ?_⟩
      refine ⟨zs ++ [z], _, rfl, by rw [upd_same, List.map_append]; rfl, hd4.put nq mq, fun b o h n n' => by rw [upd_ne (ne_of_none h hq)]; exact f4 _ _ (f3 _ _ h n n') n n', by rw [List.length_append, hl]; rfl, ?_, fun y hy => ?_⟩
      · exact List.nodup_append.mpr ⟨hnd, by simp, fun x hx y hy e => nz (by rw [← List.mem_singleton.mp hy, ← e]; exact hx)⟩
      · rcases List.mem_append.mp hy with h | h
        · exact hz y h
        · rw [List.mem_singleton.mp h]; exact wz
    · rintro σ H3 ⟨zs, v, rfl, e3, hd3, f3, hl, hnd, hz⟩
      exact ⟨_, rfl, k q zs H3 (by omega) hnd hz e3 hq hd3 f3⟩
abbrev sLawEntry : Stmt := top 69
theorem scLawEntry : FnScope ["source", "cells", "word", "host", "mark"] ["source", "cells", "word"] (defScope sLawEntry) := ⟨rfl, rfl, rfl, by decide +kernel, rfl, by decide +kernel, by decide +kernel⟩
theorem ok_entryS {f : Addr} {fd : FuncData} (F : Fun K "_law_entry" "_law_entry" sLawEntry f fd) (T : Txt mg) (HR : Has P w K mg base "_law_roll" ["source", "many"] 1 spRoll) : FnOk P w K mg base CX0 2 f fd ["source", "cells", "word"] spEntryS := by
  refine F.ok scLawEntry (fun vs H Q E h => ?_) (fun cdv A outer s H vs Q E hr h => ?_)
  · obtain ⟨a, l, pc, ys, cells, z, rfl, _⟩ := h
    rfl
  · obtain ⟨a, l, pc, ys, cells, z, rfl, hd, hp, mk, ne, few, c64, k⟩ := h
    refine ⟨_, (pss_cons (ps_set (i := 3) scLawEntry.nd rfl (by first | exact Or.inl rfl | exact Or.inr rfl) (pe_ix ix_tup (pv 1) (pe_callH HR (hr.mono (by decide)) rfl (pa_cons (pv 0) (pa_cons (pe_callB call_len rfl T.len PySem.boot_len (pa_cons (pv 1) pa_nil)) pa_nil))) (fun _ _ => rfl)))
      (pss_one (ps_ret (pe_tup (pa_cons (pe_callTy call_tuple_of rfl T.tuple (by decide +kernel) (pa_cons (pe_lc (own := [("mark", 4)]) rfl scLawEntry.nd (pi_tup (pv 3)) (blkOk_by (N := ["source", "cells", "word", "host", "mark"]) (sc := defScope sLawEntry) (by decide +kernel)) (fun _ _ _ _ _ => (pg_name (i := 4) scLawEntry.nd rfl (by first | exact Or.inl rfl | exact Or.inr rfl))) (fun _ _ _ _ _ => pts_one (pt_cmpR op_eq (pe_callH HR (hr.mono (by decide)) rfl (pa_cons (pv 0) (pa_cons pe_int pa_nil))) pe_int (nomark _))) (fun _ _ _ _ _ => (pv 4))) pa_nil)) (pa_cons (pv 2) pa_nil)))))), ?_⟩
    have ly := Paired.length mk
    have pos : 0 < cells.length := List.length_pos_iff.mpr ne
    refine ⟨_, rfl, _, rfl, _, rfl, _, ys.length, rfl, .inr ⟨_, sqT hp, rfl⟩, a, l, _, rfl, hd, by omega, by omega, fun d H1 d0 d1 hd1 f1 => ?_⟩
    obtain ⟨j, ej⟩ : ∃ j : Nat, d = (j : Int) := ⟨d.toNat, by omega⟩
    subst ej
    have hj : j < ys.length := by omega
    obtain ⟨c, ec, ph, evh, hh⟩ := Paired.get mk (List.getElem?_eq_getElem hj)
    have t1 := hd.tfr f1
    have hh1 := t1 _ _ hh
    have lc := c64 c (List.mem_of_getElem? ec)
    refine ⟨pc, _, _, _, rfl, rfl, sqT (t1 _ _ hp), at_of (j := j) rfl (List.getElem?_eq_getElem hj), ?_⟩
    rw [evh]
    refine ⟨_, rfl, ph, rfl, ⟨_, sqT hh1⟩, fun D hD => ?_⟩
    have hD0 := hd1.free f1 hD
    have nDa := hd1.ne hD
    have nDl := hd1.ne' hD
    refine lc_tup (K := K) (a := ph) (xs := c.map V.int) (fun i H3 => ∃ ks : List Int, Src H3 a l ∧ Fr2 a l H H3 ∧ H3 D = some (.lst (ks.map V.int)) ∧ ks.Sublist (c.take i)) ⟨[], hd1.keep (Same.new hD), f1.trans (Fr2.new hD), upd_same, List.nil_sublist _⟩ (fun i H3 _ ⟨_, _, f, _⟩ => sqT (hd.tfr f _ _ hh)) ?_ ?_
    · rintro i y H3 hi ⟨ks, hd3, f3, e3, sb⟩
      obtain ⟨m, hm, rfl⟩ := int_of hi
      refine ⟨rfl, _, rfl, a, l, _, rfl, hd3, by decide, by decide, fun d H4 d0 d1 hd4 f4 => ⟨rfl, _, rfl, ?_⟩⟩
      have e4 := f4 _ _ e3 nDa nDl
      have f04 := f3.trans f4
      have nx : c.take (i + 1) = c.take i ++ [m] := by rw [List.take_add_one, hm]; rfl
      have lk := sb.length_le
      rw [List.length_take] at lk
      rw [nx]
      refine ite2 (fun _ => ?_) (fun _ => ⟨ks, hd4, f04, e4, sb.trans (List.sublist_append_left _ _)⟩)
      refine ⟨_, rfl, _, e4, by rw [List.length_map]; exact small1000 (by omega), ks ++ [m], hd4.put nDa nDl, fun b o h n n' => by rw [upd_ne (ne_of_none h hD0)]; exact f04 _ _ h n n', by rw [upd_same, List.map_append]; rfl, sb.append (List.Sublist.refl _)⟩
    · rintro H3 ⟨ks, hd3, f3, e3, sb⟩
      rw [List.length_map, List.take_length] at sb
      refine ⟨D, _, rfl, .inl ⟨SqL.of e3, fun p hp' => ?_⟩⟩
      have s4 : Same H3 (upd H3 p (.tup (ks.map V.int))) := Same.new hp'
      have e4 : (upd H3 p (.tup (ks.map V.int))) p = some (.tup (ks.map V.int)) := upd_same
      generalize upd H3 p (.tup (ks.map V.int)) = H4 at *
      refine ⟨_, rfl, (by show 2 ≤ sizeLine; decide), fun v hv => ?_⟩
      have s5 : Same H4 (upd H4 v (.tup [.ref p, .str z])) := Same.new hv
      exact k (.ref v) _ ⟨p, ks, c, ⟨v, rfl, upd_same⟩, s5 _ _ e4, List.mem_of_getElem? ec, sb⟩ ((hd3.keep s4).keep s5) ((f3.trans (Fr2.same s4)).trans (Fr2.same s5))
end
end Xci

namespace Xci
open PySem L2
/-- all but the source, its list and the tables of code objects is kept -/
def Fr3 (a l : Addr) (H H' : Hp) : Prop := ∀ b o, H b = some o → b ≠ a → b ≠ l → (∀ ps, o ≠ .tbl ps) → H' b = some o
theorem Fr3.trans {a l : Addr} {H H1 H2 : Hp} (f : Fr3 a l H H1) (g : Fr3 a l H1 H2) : Fr3 a l H H2 := fun b o h n m r => g b o (f b o h n m r) n m r
theorem Fr3.of {a l : Addr} {H H' : Hp} (f : Fr2 a l H H') : Fr3 a l H H' := fun b o h n m _ => f b o h n m
theorem Src.ext {H H' : Hp} {a l : Addr} (d : Src H a l) (e : LamX.ExtN H H') : Src H' a l := by
  obtain ⟨ns, c, s, n, h, hl, r⟩ := d
  exact ⟨ns, c, s, n, e _ _ h (fun _ z => by cases z), e _ _ hl (fun _ z => by cases z), r⟩
theorem Src.tfr3 {H H' : Hp} {a l : Addr} (d : Src H a l) (f : Fr3 a l H H') : TFr H H' := fun p xs h => by
  obtain ⟨ys, e⟩ := d.is
  obtain ⟨zs, e'⟩ := d.is'
  exact f p _ h (ne_of h e (by intro z; cases z)) (ne_of h e' (by intro z; cases z)) (fun _ z => by cases z)
abbrev lamName : Str := "_law_forms" ++ ".<locals>." ++ "<lambda>"
theorem tab_frame {a l t : Addr} {H H' : Hp} (ht : LamX.TabS H t lamName) (hd : Src H a l) (f : Fr2 a l H H') : LamX.TabS H' t lamName := by
  obtain ⟨ys, ea⟩ := hd.is
  obtain ⟨zs, el⟩ := hd.is'
  obtain ⟨ps, e, tr, all⟩ := ht
  refine ⟨ps, f _ _ e (ne_of e ea (by intro z; cases z)) (ne_of e el (by intro z; cases z)), tr, fun pos cv h => ?_⟩
  obtain ⟨c, e1, e2⟩ := all pos cv h
  have nl : ∀ {xs : List V}, LamX.CodeO c lamName ≠ HO.lst xs := fun z => by unfold LamX.CodeO at z; cases z
  exact ⟨c, e1, f _ _ e2 (ne_of e2 ea nl) (ne_of e2 el nl)⟩
def spFormsS (t : Addr) : Sp := fun vs H Q _ => ∃ (a l pc : Addr) (ys : List V) (cells : List (List Int)) (n : Nat), vs = [.ref a, .ref pc, .int (n : Int)] ∧ Src H a l ∧ H pc = some (.tup ys) ∧ Mks H ys cells ∧ cells ≠ [] ∧ cells.length ≤ 24 ∧ (∀ c ∈ cells, MarksOk 6 c) ∧ 1 ≤ n ∧ n ≤ 12 ∧ LamX.TabS H t lamName ∧
  ∀ (p : Addr) (fs : List (Option Str)) (zs : List Str) (H' : Hp), H' p = some (.tup (fs.map formV)) → FormsOk cells.length fs → zs.length ≤ n → (∀ z, some z ∈ fs → z ∈ zs) → Src H' a l → LamX.TabS H' t lamName → Fr3 a l H H' → Q (.ref p) H'
section
variable {P : Program} {w : World} {K : PySem.W.Frag} {mg : Str → Option Value} {base : Heap}
abbrev sLawForms : Stmt := top 70
theorem scLawForms : FnScope ["source", "cells", "most", "words", "style", "entries", "word", "found", "cell", "own", "entry"] ["source", "cells", "most"] (defScope sLawForms) := ⟨rfl, rfl, rfl, by decide +kernel, rfl, by decide +kernel, by decide +kernel⟩
set_option maxHeartbeats 4000000 in
theorem ok_formsS {f c t : Addr} {fd : FuncData} (F : FunC K "_law_forms" "_law_forms" sLawForms f fd c) (TB : LamX.TabB base mg c t) (T : Txt mg) (HR : Has P w K mg base "_law_roll" ["source", "many"] 1 spRoll) (HWs : Has P w K mg base "_law_words" ["source", "many"] 3 spWordsS)
    (HEn : Has P w K mg base "_law_entry" ["source", "cells", "word"] 2 spEntryS) (HLi : Has P w K mg base "_law_lies" ["one", "other"] 1 spIn) : FnOk P w K mg base CX0 4 f fd ["source", "cells", "most"] (spFormsS t) := by
  refine F.ok scLawForms (fun vs H Q E h => ?_) (fun A outer s H vs Q E hr h => ?_)
  · obtain ⟨a, l, pc, ys, cells, n, rfl, _⟩ := h
    rfl
  · obtain ⟨a, l, pc, ys, cells, n, rfl, hd, hp, mk, ne, few, ok, n1, n2, ht, k⟩ := h
    refine ⟨_, (pss_cons (ps_set (i := 3) scLawForms.nd rfl (by first | exact Or.inl rfl | exact Or.inr rfl) (pe_callH HWs (hr.mono (by decide)) rfl (pa_cons (pv 0) (pa_cons (pe_op op_add pe_int (pe_callH HR (hr.mono (by decide)) rfl (pa_cons (pv 0) (pa_cons (pv 2) pa_nil)))) pa_nil))))
      (pss_cons (ps_set (i := 4) scLawForms.nd rfl (by first | exact Or.inl rfl | exact Or.inr rfl) (pe_callH HR (hr.mono (by decide)) rfl (pa_cons (pv 0) (pa_cons pe_int pa_nil))))
      (pss_cons (ps_setLc (i := 5) (own := [("word", 6)]) rfl scLawForms.nd rfl rfl (sw_true rfl rfl rfl (by decide +kernel)) (pi_list (pv 3)) (blkOk_by (N := ["source", "cells", "most", "words", "style", "entries", "word", "found", "cell", "own", "entry"]) (sc := defScope sLawForms) (by decide +kernel)) (fun _ _ _ _ _ => (pg_name (i := 6) scLawForms.nd rfl (by first | exact Or.inl rfl | exact Or.inr rfl))) (fun _ _ _ _ _ => pts_nil) (fun _ _ _ _ _ => (pe_callH HEn (hr.mono (by decide)) rfl (pa_cons (pv 0) (pa_cons (pv 1) (pa_cons (pv 6) pa_nil))))))
      (C8.pss_cut (ps_if (pt_cmpR op_eq (pv 4) pe_int (nomark _)) (pss_one (ps_set (i := 5) scLawForms.nd rfl (by first | exact Or.inl rfl | exact Or.inr rfl) (pe_sortLam (T := [(t, lamName)]) (k := 0) rfl T.sorted T.len TB rfl (List.mem_singleton.mpr rfl) (fun p hp _ => by rw [List.mem_singleton.mp hp]; rfl) (hr.mono (by decide)) (by exact ⟨rfl, rfl, rfl, by decide +kernel, by decide +kernel, rfl, rfl⟩) (by decide +kernel) rfl (fun _ _ _ _ _ _ => rfl) (pa_cons (pv 5) pa_nil)))) pss_nil)
      (pss_cons (ps_set (i := 7) scLawForms.nd rfl (by first | exact Or.inl rfl | exact Or.inr rfl) (pe_lst pa_nil))
      (pss_cons (ps_for PassesOwn.never rfl (pi_tup (pv 1)) (pg_name (i := 8) scLawForms.nd rfl (by first | exact Or.inl rfl | exact Or.inr rfl)) (pss_cons (ps_setLc (i := 9) (own := [("entry", 10)]) rfl scLawForms.nd rfl rfl (sw_true rfl rfl rfl (by decide +kernel)) (pi_list (pv 5)) (blkOk_by (N := ["source", "cells", "most", "words", "style", "entries", "word", "found", "cell", "own", "entry"]) (sc := defScope sLawForms) (by decide +kernel)) (fun _ _ _ _ _ => (pg_name (i := 10) scLawForms.nd rfl (by first | exact Or.inl rfl | exact Or.inr rfl))) (fun _ _ _ _ _ => pts_one (pt_val (pe_callH HLi (hr.mono (by decide)) rfl (pa_cons (pe_ix (show IxR _ (rIxT K) from ix_tup) (pv 10) pe_int (fun _ _ => rfl)) (pa_cons (pv 8) pa_nil))))) (fun _ _ _ _ _ => (pe_ix (show IxR _ (rIxT K) from ix_tup) (pv 10) pe_int (fun _ _ => rfl))))
      (pss_cons (ps_set (i := 6) scLawForms.nd rfl (by first | exact Or.inl rfl | exact Or.inr rfl) (pe_ix ix_list (pv 3) (pe_callH HR (hr.mono (by decide)) rfl (pa_cons (pv 0) (pa_cons (pe_callB call_len rfl T.len PySem.boot_len (pa_cons (pv 3) pa_nil)) pa_nil))) (fun _ _ => rfl)))
      (C8.pss_cut (ps_if (PW.pt (pw_and (pt_cmpR op_gt (pv 4) pe_int (nomark _)) (pw_and (pt_cmpR op_gt (pe_callB call_len rfl T.len PySem.boot_len (pa_cons (pv 9) pa_nil)) pe_int (nomark _)) (pw_and1 (pt_cmpR op_gt (pe_callH HR (hr.mono (by decide)) rfl (pa_cons (pv 0) (pa_cons pe_int pa_nil))) pe_int (nomark _)))))) (pss_one (ps_set (i := 6) scLawForms.nd rfl (by first | exact Or.inl rfl | exact Or.inr rfl) (pe_ix ix_list (pv 9) pe_int (fun _ _ => rfl)))) pss_nil)
      (pss_one (ps_expr (pe_bm PySem.F.plainAttrs_list PySem.F.slot_list_append PySem.F.type_list_append mt_append (pv 7) (pa_cons (pe_ifExp (pt_cmpR op_eq (pe_callH HR (hr.mono (by decide)) rfl (pa_cons (pv 0) (pa_cons pe_int pa_nil))) pe_int (nomark _)) pe_non (pv 6)) pa_nil))))))))
      (pss_one (ps_ret (pe_callTy call_tuple_of rfl T.tuple (by decide +kernel) (pa_cons (pv 7) pa_nil)))))))))), ?_⟩
    have c64 : ∀ c ∈ cells, c.length ≤ 64 := fun c hc => by have := (ok c hc).len; omega
    refine ⟨_, rfl, _, rfl, _, rfl, a, l, _, rfl, hd, by omega, by omega, fun d H1 d0 d1 hd1 f1 => ⟨_, _, rfl, rfl, ?_⟩⟩
    obtain ⟨m, em⟩ : ∃ m : Nat, 1 + d = (m : Int) := ⟨(1 + d).toNat, by omega⟩
    refine ⟨a, l, m, by show [V.ref a, V.int (1 + d)] = [V.ref a, V.int (m : Int)]; rw [em], hd1, by omega, fun qw zs H2 lz nd wz eqw hq hd2 f2 => ?_⟩
    refine ⟨_, rfl, a, l, _, rfl, hd2, by decide, by decide, fun st H3 st0 st1 hd3 f3 => ?_⟩
    have nqa := hd1.ne hq
    have nql := hd1.ne' hq
    have f03 : Fr2 a l H H3 := (f1.trans f2).trans f3
    have eqw3 := f3 _ _ eqw nqa nql
    have zlen : 1 ≤ zs.length ∧ zs.length ≤ 12 := by omega
    clear hd1 hd2 f1 f2 f3 eqw
    refine ⟨_, rfl, qw, rfl, ⟨_, SqL.of eqw3⟩, fun D hD => ?_⟩
    have nDa := hd3.ne hD
    have nDl := hd3.ne' hD
    refine lc_list (K := K) (a := qw) (xs := zs.map V.str) (fun i H4 => ∃ es : List V, Src H4 a l ∧ Fr2 a l H3 H4 ∧ H4 D = some (.lst es) ∧ es.length = i ∧ ∀ x ∈ es, ∃ z ∈ zs, EntS H4 x cells z) ⟨[], hd3.keep (Same.new hD), Fr2.new hD, upd_same, rfl, nofun⟩ (fun i H4 _ ⟨_, _, f, _⟩ => SqL.of (f _ _ eqw3 nqa nql)) ?_ ?_
    · rintro i y H4 hi ⟨es, hd4, f4, e4, le4, en4⟩
      rw [List.getElem?_map] at hi
      obtain ⟨z, ez, rfl⟩ := Option.map_eq_some_iff.mp hi
      have lt := (List.getElem?_eq_some_iff.mp ez).1
      have f04 := f03.trans f4
      have t04 := hd.tfr f04
      refine ⟨rfl, _, rfl, _, rfl, _, rfl, a, l, pc, ys, cells, z, rfl, hd4, t04 _ _ hp, mk.keep t04, ne, by omega, c64, fun v H5 en hd5 f5 => ?_⟩
      have e5 := f5 _ _ e4 nDa nDl
      refine ⟨es, e5, small1000 (by omega), es ++ [v], hd5.put nDa nDl, fun b o h n n' => by rw [upd_ne (ne_of_none h hD)]; exact f5 _ _ (f4 _ _ h n n') n n', upd_same, by rw [List.length_append, le4]; rfl, fun x hx => ?_⟩
      rcases List.mem_append.mp hx with h | h
      · obtain ⟨y, hy, ey⟩ := en4 x h
        exact ⟨y, hy, (ey.keep (hd4.tfr f5)).keep (TFr.lst e5)⟩
      · rw [List.mem_singleton.mp h]
        exact ⟨z, List.mem_of_getElem? ez, en.keep (TFr.lst e5)⟩
    rintro H4 ⟨es, hd4, f4, e4, le4, en4⟩
    rw [List.length_map] at le4
    have ht4 := tab_frame (tab_frame ht hd f03) hd3 f4
    have f04 := f03.trans f4
    refine ⟨fun σ' H5 => ∃ (qe : Addr) (es : List V), σ' = [some (.ref a), some (.ref pc), some (.int (n : Int)), some (.ref qw), some (.int st), some (.ref qe), none, none, none, none, none] ∧ Src H5 a l ∧ LamX.TabS H5 t lamName ∧ Fr3 a l H H5 ∧ H5 qw = some (.lst (zs.map V.str)) ∧ H5 qe = some (.lst es) ∧ es.length = zs.length ∧ (∀ x ∈ es, ∃ z ∈ zs, EntS H5 x cells z) ∧ qe ≠ a ∧ qe ≠ l, ?_, ?_⟩
    · refine ⟨_, rfl, rfl, _, rfl, ?_⟩
      refine ite2 (fun _ => ?_) (fun _ => ⟨D, es, rfl, hd4, ht4, Fr3.of f04, f4 _ _ eqw3 nqa nql, e4, le4, en4, nDa, nDl⟩)
      refine ⟨_, rfl, D, es, rfl, e4, fun x hx => ?_, fun p hp => by rw [List.mem_singleton.mp hp]; exact ht4, fun H5 p es' eN T5 pm hp => ?_⟩
      · obtain ⟨z, _, p, ks, c, ⟨q, rfl, hq⟩, h2, _⟩ := en4 x hx
        exact ⟨_, q, p, _, _, rfl, hq, h2, rfl⟩
      · have t45 : TFr H4 H5 := fun b xs h => eN _ _ h (fun _ z => by cases z)
        have s6 : Same H5 (upd H5 p (.lst es')) := Same.new hp
        exact ⟨p, es', rfl, (hd4.ext eN).keep s6, (T5 _ List.mem_cons_self).ext s6, fun b o h n m r => s6 _ _ (eN _ _ (f04 _ _ h n m) r), s6 _ _ (eN _ _ (f4 _ _ eqw3 nqa nql) (fun _ z => by cases z)), upd_same, pm.length_eq.trans le4, fun x hx => by
          obtain ⟨z, hz, ez⟩ := en4 x (pm.subset hx)
          exact ⟨z, hz, (ez.keep t45).keep (TFr.same s6)⟩, (hd4.ext eN).ne hp, (hd4.ext eN).ne' hp⟩
    clear e4 le4 en4 ht4 f04 hd4 f4 es hD nDa nDl hd3 f03 eqw3 H4
    rintro σ' H5 ⟨qe, es, rfl, hd5, ht5, f5, eqw5, eqe, les, en5, nea, nel⟩
    have hp5 := hd.tfr3 f5 _ _ hp
    have mk5 := mk.keep (hd.tfr3 f5)
    have ly := Paired.length mk
    refine ⟨Nat.zero_le _, fun qf hqf => ?_⟩
    have nfa := hd5.ne hqf
    have nfl := hd5.ne' hqf
    refine ⟨_, rfl, pc, rfl, ⟨_, sqT (by rw [upd_ne (ne_of_none hp5 hqf)]; exact hp5)⟩, ?_⟩
    refine for_tup (K := K) (a := pc) (xs := ys) (fun i σ H6 => ∃ (fs : List (Option Str)) (o6 o8 o9 o10 : Option V), σ = [some (.ref a), some (.ref pc), some (.int (n : Int)), some (.ref qw), some (.int st), some (.ref qe), o6, some (.ref qf), o8, o9, o10] ∧ Src H6 a l ∧ Fr2 a l H5 H6 ∧ H6 qf = some (.lst (fs.map formV)) ∧ fs.length = i ∧ ∀ z, some z ∈ fs → z ∈ zs)
      ⟨[], _, _, _, _, rfl, hd5.keep (Same.new hqf), Fr2.new hqf, upd_same, rfl, nofun⟩ (fun i σ H6 _ ⟨_, _, _, _, _, _, _, f, _⟩ => sqT (hd5.tfr f _ _ hp5)) ?_ ?_
    · rintro i y σ H6 hi ⟨fs, o6, o8, o9, o10, rfl, hd6, f6, e6, lf, all6⟩
      obtain ⟨c, ec, pm, rfl, hpm⟩ := Paired.get mk5 hi
      have t56 := hd5.tfr f6
      have eqw6 := f6 _ _ eqw5 nqa nql
      have eqe6 := f6 _ _ eqe nea nel
      have en6 : ∀ x ∈ es, ∃ z ∈ zs, EntS H6 x cells z := fun x hx => by
        obtain ⟨z, hz, ez⟩ := en5 x hx
        exact ⟨z, hz, ez.keep t56⟩
      refine ⟨_, rfl, qe, rfl, ⟨_, SqL.of eqe6⟩, fun D hD => ?_⟩
      refine lc_list (K := K) (a := qe) (xs := es) (fun i H7 => ∃ ws : List Str, Same H6 H7 ∧ H7 D = some (.lst (ws.map V.str)) ∧ ws.length ≤ i ∧ ∀ z ∈ ws, z ∈ zs) ⟨[], Same.new hD, upd_same, Nat.zero_le _, nofun⟩ (fun i H7 _ ⟨_, e, _⟩ => SqL.of (e _ _ eqe6)) ?_ ?_
      · rintro i x H7 hx ⟨ws, s7, e7, lw, all7⟩
        have lti := (List.getElem?_eq_some_iff.mp hx).1
        obtain ⟨z, hz, p, ks, c', ⟨q, rfl, hq'⟩, hks, hc', sub⟩ := en6 x (List.mem_of_getElem? hx)
        have lk := sub.length_le
        have := c64 c' hc'
        refine ⟨rfl, _, rfl, q, _, _, _, rfl, rfl, sqT (s7 _ _ hq'), at_of (j := 0) rfl rfl, _, rfl, .ref p, .ref pm, ks, c, rfl, ⟨p, rfl, s7 _ _ hks⟩, ⟨pm, rfl, s7 _ _ (t56 _ _ hpm)⟩, by omega, fun H8 s8 => ⟨_, rfl, ?_⟩⟩
        refine ite2 (fun _ => ?_) (fun _ => ⟨ws, s7.trans s8, s8 _ _ e7, by omega, all7⟩)
        refine ⟨_, rfl, q, _, _, _, rfl, rfl, sqT (s8 _ _ (s7 _ _ hq')), at_of (j := 1) rfl rfl, _, s8 _ _ e7, by rw [List.length_map]; exact small1000 (by omega), ws ++ [z], fun b o h => by rw [upd_ne (ne_of_none h hD)]; exact s8 _ _ (s7 _ _ h), by rw [upd_same, List.map_append]; rfl, by rw [List.length_append]; exact Nat.succ_le_succ lw, fun y hy => ?_⟩
        rcases List.mem_append.mp hy with h | h
        · exact all7 y h
        · rw [List.mem_singleton.mp h]; exact hz
      rintro H7 ⟨ws, s7, e7, lw, all7⟩
      have hd7 := hd6.keep s7
      have f57 : Fr2 a l H5 H7 := f6.trans (Fr2.same s7)
      have nDa := hd6.ne hD
      have nDl := hd6.ne' hD
      have nfD : qf ≠ D := fun z => by rw [z, hD] at e6; cases e6
      refine ⟨_, rfl, _, rfl, _, rfl, _, zs.length, rfl, .inl ⟨_, SqL.of (s7 _ _ eqw6), by rw [List.length_map]⟩, a, l, _, rfl, hd7, by omega, by omega, fun d H8 d0 d1 hd8 f8 => ?_⟩
      obtain ⟨j, ej⟩ : ∃ j : Nat, d = (j : Int) := ⟨d.toNat, by omega⟩
      subst ej
      have hj : j < zs.length := by omega
      refine ⟨qw, _, _, V.str zs[j], rfl, rfl, SqL.of (f8 _ _ (s7 _ _ eqw6) nqa nql), at_of (j := j) rfl (by rw [List.getElem?_map, List.getElem?_eq_getElem hj]; rfl), ?_⟩
      have hz0 : zs[j] ∈ zs := List.getElem_mem hj
      generalize zs[j] = z0 at *
      have e8 := f8 _ _ (s7 _ _ e6) nfa nfl
      have eD8 := f8 _ _ e7 nDa nDl
      have f58 := f57.trans f8
      refine ⟨fun σ' H9 => ∃ z ∈ zs, σ' = [some (.ref a), some (.ref pc), some (.int (n : Int)), some (.ref qw), some (.int st), some (.ref qe), some (.str z), some (.ref qf), some (.ref pm), some (.ref D), o10] ∧ Src H9 a l ∧ Fr2 a l H5 H9 ∧ H9 qf = some (.lst (fs.map formV)), ?_, ?_⟩
      · refine ⟨_, rfl, _, _, rfl, rfl, _, rfl, ?_⟩
        refine ite2 (fun _ => ?_) (fun _ => ⟨z0, hz0, rfl, hd8, f58, e8⟩)
        refine ⟨_, rfl, _, _, rfl, .inl ⟨_, SqL.of eD8, rfl⟩, _, _, rfl, rfl, _, rfl, ?_⟩
        refine ite2 (fun hw => ?_) (fun _ => ⟨z0, hz0, rfl, hd8, f58, e8⟩)
        refine ⟨_, rfl, a, l, _, rfl, hd8, by decide, by decide, fun d H9 d0 d1 hd9 f9 => ⟨_, _, rfl, rfl, _, rfl, ?_⟩⟩
        refine ite2 (fun _ => ?_) (fun _ => ⟨z0, hz0, rfl, hd9, f58.trans f9, f9 _ _ e8 nfa nfl⟩)
        cases ws with
        | nil => cases hw
        | cons z1 r => exact ⟨_, rfl, D, _, _, _, rfl, rfl, SqL.of (f9 _ _ eD8 nDa nDl), at_of (j := 0) rfl rfl, z1, all7 z1 List.mem_cons_self, rfl, hd9, f58.trans f9, f9 _ _ e8 nfa nfl⟩
      rintro σ' H9 ⟨z, hz, rfl, hd9, f9, e9⟩
      refine ⟨_, rfl, .inl ⟨rfl, _, SqL.of e9⟩, _, rfl, a, l, _, rfl, hd9, by decide, by decide, fun d H10 d0 d1 hd10 f10 => ⟨rfl, _, rfl, ?_⟩⟩
      have e10 := f10 _ _ e9 nfa nfl
      have lt := (List.getElem?_eq_some_iff.mp hi).1
      have fin : ∀ fo : Option Str, (∀ z, fo = some z → z ∈ zs) → ∃ (fs' : List (Option Str)) (q6 q8 q9 q10 : Option V), [some (.ref a), some (.ref pc), some (.int (n : Int)), some (.ref qw), some (.int st), some (.ref qe), some (.str z), some (.ref qf), some (.ref pm), some (.ref D), o10] = [some (.ref a), some (.ref pc), some (.int (n : Int)), some (.ref qw), some (.int st), some (.ref qe), q6, some (.ref qf), q8, q9, q10] ∧ Src (upd H10 qf (.lst (fs.map formV ++ [formV fo]))) a l ∧ Fr2 a l H5 (upd H10 qf (.lst (fs.map formV ++ [formV fo]))) ∧ (upd H10 qf (.lst (fs.map formV ++ [formV fo]))) qf = some (.lst (fs'.map formV)) ∧ fs'.length = i + 1 ∧ ∀ z, some z ∈ fs' → z ∈ zs := fun fo ok => by
        refine ⟨fs ++ [fo], _, _, _, _, rfl, hd10.put nfa nfl, fun b o h n n' => by rw [upd_ne (ne_of_none h hqf)]; exact f10 _ _ (f9 _ _ h n n') n n', by rw [upd_same, List.map_append]; rfl, by rw [List.length_append, lf]; rfl, fun y hy => ?_⟩
        rcases List.mem_append.mp hy with h | h
        · exact all6 y h
        · exact ok y (List.mem_singleton.mp h).symm
      refine ite2 (fun _ => ?_) (fun _ => ?_)
      · exact ⟨qf, _, _, rfl, rfl, e10, by rw [List.length_map]; exact small1000 (by omega), fin none nofun⟩
      · exact ⟨_, rfl, qf, _, _, rfl, rfl, e10, by rw [List.length_map]; exact small1000 (by omega), fin (some z) fun y e => by cases e; exact hz⟩
    · rintro σ H6 ⟨fs, o6, o8, o9, o10, rfl, hd6, f6, e6, lf, all6⟩
      refine ⟨_, rfl, qf, _, rfl, .inl ⟨SqL.of e6, fun p hp' => ?_⟩⟩
      have s7 : Same H6 (upd H6 p (.tup (fs.map formV))) := Same.new hp'
      exact k p fs zs _ upd_same (forms_few (zs := zs) (by omega) few wz zlen.2 all6) (by omega) all6 (hd6.keep s7) ((tab_frame ht5 hd5 f6).ext s7) (f5.trans (Fr3.of (f6.trans (Fr2.same s7))))
end
end Xci

namespace Xci
open PySem L2
def spFamilyS : Sp := fun vs H Q _ => ∃ (a l : Addr) (mc mm : Int), vs = [.ref a, .int mc, .int mm] ∧ Src H a l ∧ 1 ≤ mc ∧ mc ≤ 24 ∧ 0 ≤ mm ∧ mm ≤ 6 ∧
  ∀ (v : V) (p : Addr) (many : Int) (ys : List V) (cells : List (List Int)) (H' : Hp), Tup H' v [.int many, .ref p] → H' p = some (.tup ys) → Mks H' ys cells → FamOk many cells → (cells.length : Int) ≤ mc → many ≤ mm → Src H' a l → Fr2 a l H H' → Q v H'
theorem fam_at16 {j : Nat} (h : j < 16) : ∃ n : Int, ([V.int 2, .int 3, .int 3, .int 4, .int 2, .int 3, .int 3, .int 4, .int 2, .int 3, .int 1, .int 5, .int 6, .int 3, .int 2, .int 0] : List V)[j]? = some (.int n) ∧ 0 ≤ n ∧ n ≤ 6 := by
  have : ∀ j : Fin 16, ∃ n : Fin 7, ([V.int 2, .int 3, .int 3, .int 4, .int 2, .int 3, .int 3, .int 4, .int 2, .int 3, .int 1, .int 5, .int 6, .int 3, .int 2, .int 0] : List V)[j.val]? = some (.int (n.val : Int)) := by decide
  obtain ⟨n, e⟩ := this ⟨j, h⟩
  exact ⟨n.val, e, by omega, by omega⟩
theorem idx_perm {α : Type} : ∀ {us : List α} {j : Nat} {x : α}, us[j]? = some x → (x :: us.eraseIdx j).Perm us
  | _ :: _, 0, _, h => by cases h; exact List.Perm.refl _
  | y :: r, j + 1, x, h => (List.Perm.swap y x _).trans (List.Perm.cons y (idx_perm (us := r) h))
theorem pop_perm {α : Type} {us zs ys : List α} {j : Nat} {x : α} (h : us[j]? = some x) (pm : (zs ++ us).Perm ys) : ((zs ++ [x]) ++ us.eraseIdx j).Perm ys := by
  refine List.Perm.trans ?_ pm
  rw [List.append_assoc]
  refine List.Perm.append_left _ ?_
  exact idx_perm h
section
variable {P : Program} {w : World} {K : PySem.W.Frag} {mg : Str → Option Value} {base : Heap}
abbrev sLawFamily : Stmt := top 67
theorem scLawFamily : FnScope ["source", "most", "marks", "many", "rest", "wanted", "turn"] ["source", "most", "marks"] (defScope sLawFamily) := ⟨rfl, rfl, rfl, by decide +kernel, rfl, by decide +kernel, by decide +kernel⟩
set_option maxHeartbeats 2000000 in
theorem ok_familyS {f : Addr} {fd : FuncData} (F : Fun K "_law_family" "_law_family" sLawFamily f fd) (T : Txt mg) (HR : Has P w K mg base "_law_roll" ["source", "many"] 1 spRoll) (HL : Has P w K mg base "_law_lots" ["items"] 1 (spLots K)) : FnOk P w K mg base CX0 2 f fd ["source", "most", "marks"] spFamilyS := by
  refine F.ok scLawFamily (fun vs H Q E h => ?_) (fun cdv A outer s H vs Q E hr h => ?_)
  · obtain ⟨a, l, mc, mm, rfl, _⟩ := h
    rfl
  · obtain ⟨a, l, mc, mm, rfl, hd, c1, c2, m1, m2, k⟩ := h
    refine ⟨_, (pss_cons (ps_set (i := 3) scLawFamily.nd rfl (by first | exact Or.inl rfl | exact Or.inr rfl) (pe_callB (call_min2 rfl) rfl T.min (by decide +kernel) (pa_cons (pv 2) (pa_cons (pe_ix ix_tup (pe_tup (pa_cons pe_int (pa_cons pe_int (pa_cons pe_int (pa_cons pe_int (pa_cons pe_int (pa_cons pe_int (pa_cons pe_int (pa_cons pe_int (pa_cons pe_int (pa_cons pe_int (pa_cons pe_int (pa_cons pe_int (pa_cons pe_int (pa_cons pe_int (pa_cons pe_int (pa_cons pe_int pa_nil))))))))))))))))) (pe_callH HR (hr.mono (by decide)) rfl (pa_cons (pv 0) (pa_cons pe_int pa_nil))) (fun _ _ => rfl)) pa_nil))))
      (pss_cons (ps_set (i := 4) scLawFamily.nd rfl (by first | exact Or.inl rfl | exact Or.inr rfl) (pe_callH HL (hr.mono (by decide)) rfl (pa_cons (pe_tupRg rfl rfl T.tuple (prg_1 rfl T.range (pv 3))) pa_nil)))
      (pss_cons (ps_set (i := 5) scLawFamily.nd rfl (by first | exact Or.inl rfl | exact Or.inr rfl) (pe_op op_add pe_int (pe_callH HR (hr.mono (by decide)) rfl (pa_cons (pv 0) (pa_cons (pv 1) pa_nil)))))
      (C8.pss_cut (ps_if (pt_cmpR op_eq (pe_callH HR (hr.mono (by decide)) rfl (pa_cons (pv 0) (pa_cons pe_int pa_nil))) pe_int (nomark _)) (pss_one (ps_set (i := 5) scLawFamily.nd rfl (by first | exact Or.inl rfl | exact Or.inr rfl) (pv 1))) pss_nil)
      (pss_one (ps_ret (pe_tup (pa_cons (pv 3) (pa_cons (pe_callTy call_tuple_of rfl T.tuple (by decide +kernel) (pa_cons (pe_lc (own := [("turn", 6)]) rfl scLawFamily.nd (pi_range1 rfl T.range (pa_cons (pe_callB (call_min2 rfl) rfl T.min (by decide +kernel) (pa_cons (pv 5) (pa_cons (pe_callB call_len rfl T.len PySem.boot_len (pa_cons (pv 4) pa_nil)) pa_nil))) pa_nil)) (blkOk_by (N := ["source", "most", "marks", "many", "rest", "wanted", "turn"]) (sc := defScope sLawFamily) (by decide +kernel)) (fun _ _ _ _ _ => (pg_name (i := 6) scLawFamily.nd rfl (by first | exact Or.inl rfl | exact Or.inr rfl))) (fun _ _ _ _ _ => pts_nil) (fun _ _ _ _ _ => (show PE _ _ (tBM K "list" _ _ _) from (pe_bm PySem.F.plainAttrs_list PySem.F.slot_list_pop PySem.F.type_list_pop mt_popAt (pv 4) (pa_cons (pe_callH HR (hr.mono (by decide)) rfl (pa_cons (pv 0) (pa_cons (pe_callB (show CallR _ _ (rLen K) from call_lenK) rfl T.len PySem.boot_len (pa_cons (pv 4) pa_nil)) pa_nil))) pa_nil))))) pa_nil)) pa_nil))))))))), ?_⟩
    refine ⟨_, rfl, (by show 16 ≤ sizeLine; decide), fun t ht => ?_⟩
    generalize hT : ([V.int 2, .int 3, .int 3, .int 4, .int 2, .int 3, .int 3, .int 4, .int 2, .int 3, .int 1, .int 5, .int 6, .int 3, .int 2, .int 0] : List V) = L
    have et : (upd H t (.tup L)) t = some (.tup L) := upd_same
    have s1 : Same H (upd H t (.tup L)) := Same.new ht
    generalize upd H t (.tup L) = H1 at *
    have hd1 := hd.keep s1
    refine ⟨_, rfl, a, l, _, rfl, hd1, by decide, by decide, fun d H2 d0 d1 hd2 f2 => ?_⟩
    obtain ⟨j, ej⟩ : ∃ j : Nat, d = (j : Int) := ⟨d.toNat, by omega⟩
    subst ej
    obtain ⟨n, en, n0, n1⟩ := fam_at16 (j := j) (by omega)
    rw [hT] at en
    refine ⟨t, _, _, _, rfl, rfl, sqT (hd1.tfr f2 _ _ et), at_of rfl en, _, _, rfl, ?_⟩
    have f02 : Fr2 a l H H2 := (Fr2.same s1).trans f2
    clear et hT en
    have b0 : 0 ≤ (if n < mm then n else mm) ∧ (if n < mm then n else mm) ≤ 6 ∧ (if n < mm then n else mm) ≤ mm := by split <;> omega
    generalize (if n < mm then n else mm) = many at *
    obtain ⟨b0, b1, b2⟩ := b0
    clear n0 n1
    refine ⟨_, rfl, _, rfl, RgOk.of_le (by omega) (by omega) (by omega) (by omega), fun t ht => ?_⟩
    have et : (upd H2 t (.tup (rgV 0 many))) t = some (.tup ((rng many).map V.int)) := by rw [upd_same, rgV_rng]
    have s3 : Same H2 (upd H2 t (.tup (rgV 0 many))) := Same.new ht
    generalize upd H2 t (.tup (rgV 0 many)) = H3 at *
    have hlen : (rng many).length ≤ 6 := by rw [rng_len]; omega
    refine ⟨t, rng many, rfl, sqT et, hlen, fun q ys H4 eq mk s4 hq => ?_⟩
    have hd4 := (hd2.keep s3).keep s4
    have f4 : Fr2 a l H H4 := f02.trans (Fr2.same (s3.trans s4))
    have hq0 : H q = Option.none := hd2.free f02 (s3.free hq)
    have nq := hd.ne hq0
    have mq := hd.ne' hq0
    have hys : ys.length = 2 ^ (rng many).length := by rw [Paired.length mk, lots_len]
    have hysN : 1 ≤ ys.length ∧ ys.length ≤ 64 := by
      rw [hys]
      exact ⟨Nat.one_le_two_pow, (Nat.pow_le_pow_right (by decide) hlen : 2 ^ (rng many).length ≤ 2 ^ 6)⟩
    clear hq et ht s3 s4 hd2 f02
    refine ⟨_, rfl, _, rfl, a, l, mc, rfl, hd4, by omega, by omega, fun d H5 d0 d1 hd5 f5 => ⟨_, _, rfl, rfl, ?_⟩⟩
    refine ⟨fun σ' H6 => ∃ w : Int, 1 ≤ w ∧ w ≤ mc ∧ σ' = [some (.ref a), some (.int mc), some (.int mm), some (.int many), some (.ref q), some (.int w), none] ∧ Src H6 a l ∧ Fr2 a l H4 H6, ?_, ?_⟩
    · refine ⟨_, rfl, a, l, _, rfl, hd5, by decide, by decide, fun e H6 e0 e1 hd6 f6 => ⟨rfl, _, rfl, ?_⟩⟩
      exact ite2 (fun _ => ⟨_, rfl, mc, c1, by omega, rfl, hd6, f5.trans f6⟩) (fun _ => ⟨1 + d, by omega, by omega, rfl, hd6, f5.trans f6⟩)
    clear d0 d1 hd5 f5 H5
    rintro σ' H6 ⟨w, w1, w2, rfl, hd6, f6⟩
    have eq6 := f6 _ _ eq nq mq
    refine ⟨_, rfl, _, rfl, _, rfl, _, ys.length, rfl, .inl ⟨_, SqL.of eq6, rfl⟩, _, _, rfl, ?_⟩
    have n0 : 0 ≤ (if (ys.length : Int) < w then (ys.length : Int) else w) ∧ (if (ys.length : Int) < w then (ys.length : Int) else w) ≤ mc ∧ 1 ≤ (if (ys.length : Int) < w then (ys.length : Int) else w) ∧ (if (ys.length : Int) < w then (ys.length : Int) else w) ≤ ys.length := by split <;> omega
    generalize (if (ys.length : Int) < w then (ys.length : Int) else w) = n at *
    obtain ⟨n0, n1, n2, n3⟩ := n0
    refine ⟨_, rfl, by omega, by omega, fun D hD => ?_⟩
    have f06 : Fr2 a l H H6 := f4.trans f6
    have hD0 := hd6.free f06 hD
    have nDa := hd6.ne hD
    have nDl := hd6.ne' hD
    have nDq : D ≠ q := fun z => by rw [z, eq6] at hD; cases hD
    refine lc_range (n := n.toNat) (fun i H7 => ∃ zs us : List V, Src H7 a l ∧ (∀ b o, H6 b = some o → b ≠ a → b ≠ l → b ≠ q → H7 b = some o) ∧ H7 q = some (.lst us) ∧ H7 D = some (.lst zs) ∧ (zs ++ us).Perm ys ∧ zs.length = i) ⟨[], ys, hd6.keep (Same.new hD), fun b o h _ _ _ => by rw [upd_ne (ne_of_none h hD)]; exact h, by rw [upd_ne nDq.symm]; exact eq6, upd_same, List.Perm.refl _, rfl⟩ ?_ ?_
    · rintro i H7 hi ⟨zs, us, hd7, f7, e7, eD, pm, lz⟩
      have lu := pm.length_eq
      rw [List.length_append] at lu
      have hus : 0 < us.length := by omega
      refine ⟨rfl, _, rfl, .inl ⟨rfl, _, SqL.of e7⟩, _, rfl, _, rfl, _, us.length, rfl, .inl ⟨_, SqL.of e7, rfl⟩, a, l, _, rfl, hd7, by omega, by omega, fun d H8 d0 d1 hd8 f8 => ?_⟩
      obtain ⟨j, ej⟩ : ∃ j : Nat, d = (j : Int) := ⟨d.toNat, by omega⟩
      subst ej
      have hj : j < us.length := by omega
      have e8 := f8 _ _ e7 nq mq
      have eD8 := f8 _ _ eD nDa nDl
      have hx : us[j]? = some us[j] := List.getElem?_eq_getElem hj
      refine ⟨q, _, _, j, us[j], rfl, rfl, e8, by omega, by omega, ?_, hx, ?_⟩
      · unfold seqIndex?
        simp
        try omega
      refine ⟨zs, by rw [upd_ne nDq]; exact eD8, small1000 (by omega), ?_⟩
      refine ⟨zs ++ [us[j]], us.eraseIdx j, (hd8.put nq mq).put nDa nDl, fun b o h n n' n'' => ?_, by rw [upd_ne nDq.symm, upd_same], upd_same, pop_perm hx pm, by rw [List.length_append, lz]; rfl⟩
      rw [upd_ne (ne_of_none h hD), upd_ne n'']
      exact f8 _ _ (f7 _ _ h n n' n'') n n'
    · rintro H7 ⟨zs, us, hd7, f7, e7, eD, pm, lz⟩
      refine ⟨D, _, rfl, .inl ⟨SqL.of eD, fun p hp => ?_⟩⟩
      have s8 : Same H7 (upd H7 p (.tup zs)) := Same.new hp
      have e8 : (upd H7 p (.tup zs)) p = some (.tup zs) := upd_same
      generalize upd H7 p (.tup zs) = H8 at *
      refine ⟨(by show 2 ≤ sizeLine; decide), fun v hv => ?_⟩
      have s9 : Same H8 (upd H8 v (.tup [.int many, .ref p])) := Same.new hv
      have t46 : TFr H4 H7 := fun b xs h => f7 _ _ (hd4.tfr f6 _ _ h) (by obtain ⟨zs, e⟩ := hd4.is; exact ne_of h e (by intro z; cases z)) (by obtain ⟨zs, e⟩ := hd4.is'; exact ne_of h e (by intro z; cases z)) (ne_of h eq (by intro z; cases z))
      obtain ⟨cs, mkc, pc⟩ := Paired.perm pm (mk.keep t46)
      have mk9 : Mks (upd H8 v (.tup [.int many, .ref p])) zs (cs.take zs.length) := Mks.keep (TFr.same (s8.trans s9)) (by
        have := Paired.take zs.length mkc
        rw [List.take_left' rfl] at this
        exact this)
      have lc := Paired.length mk9
      refine k (.ref v) p many zs (cs.take zs.length) _ ⟨v, rfl, upd_same⟩ (s9 _ _ e8) mk9 ⟨b0, b1, ?_, ?_, ?_, fun c hc => ?_⟩ ?_ b2 ((hd7.keep s8).keep s9) (fun b o h n n' => ?_)
      · intro e
        rw [e, List.length_nil] at lc
        omega
      · omega
      · exact List.Sublist.nodup (List.take_sublist _ _) (pc.nodup_iff.mpr (lots_nd (rng_ok many).nd))
      · exact (rng_ok many).sub (lots_sub (pc.subset ((List.take_subset _ _) hc)))
      · omega
      · have h6 := f06 _ _ h n n'
        exact s9 _ _ (s8 _ _ (f7 _ _ h6 n n' (ne_of_none h hq0)))
end
end Xci

namespace Xci
open PySem L2
section
variable {P : Program} {w : World} {K : PySem.W.Frag} {mg : Str → Option Value} {base : Heap}
abbrev sLawPlot : Stmt := top 71
theorem scLawPlot : FnScope ["source", "most", "forms", "marks", "many", "cells"] ["source", "most", "forms", "marks"] (defScope sLawPlot) := ⟨rfl, rfl, rfl, by decide +kernel, rfl, by decide +kernel, by decide +kernel⟩
theorem ok_plotS {f t : Addr} {fd : FuncData} (F : Fun K "_law_plot" "_law_plot" sLawPlot f fd) (HFa : Has P w K mg base "_law_family" ["source", "most", "marks"] 2 spFamilyS) (HFo : Has P w K mg base "_law_forms" ["source", "cells", "most"] 4 (spFormsS t)) :
    FnOk P w K mg base CX0 5 f fd ["source", "most", "forms", "marks"] (spPlot t (fun H => LamX.TabS H t lamName) Fr3) := by
  refine F.ok scLawPlot (fun vs H Q E h => ?_) (fun cdv A outer s H vs Q E hr h => ?_)
  · obtain ⟨a, l, mc, mm, n, rfl, _⟩ := h
    rfl
  · obtain ⟨a, l, mc, mm, n, rfl, hd, ht, c1, c2, n1, n2, m1, m2, k⟩ := h
    refine ⟨_, (pss_cons (ps_asg (pe_callH HFa (hr.mono (by decide)) rfl (pa_cons (pv 0) (pa_cons (pv 1) (pa_cons (pv 3) pa_nil)))) (pg_tup rfl (pgs_cons (pg_name (i := 4) scLawPlot.nd rfl (by first | exact Or.inl rfl | exact Or.inr rfl)) (pgs_cons (pg_name (i := 5) scLawPlot.nd rfl (by first | exact Or.inl rfl | exact Or.inr rfl)) pgs_nil))))
      (pss_one (ps_ret (pe_tup (pa_cons (pv 4) (pa_cons (pv 5) (pa_cons (pe_callH HFo (hr.mono (by decide)) rfl (pa_cons (pv 0) (pa_cons (pv 5) (pa_cons (pv 2) pa_nil)))) pa_nil))))))), ?_⟩
    refine ⟨_, rfl, _, rfl, _, rfl, a, l, mc, mm, rfl, hd, c1, c2, m1, m2, fun v pc many cy cells H1 tv hp mk fam lc lm hd1 f1 => ?_⟩
    obtain ⟨tp, rfl, htp⟩ := tv
    refine ⟨tp, _, rfl, sqT htp, rfl, _, _, rfl, _, _, rfl, rfl, ?_⟩
    have ht1 := tab_frame ht hd f1
    refine ⟨_, rfl, _, rfl, _, rfl, _, rfl, _, rfl, a, l, pc, cy, cells, n, rfl, hd1, hp, mk, fam.ne, fam.len, fun c hc => (fam.ok c hc).le fam.hi, n1, n2, ht1, fun pf fs zs H2 ef fok lz mz hd2 ht2 f2 => ?_⟩
    have t12 := hd1.tfr3 f2
    refine ⟨(by show 3 ≤ sizeLine; decide), fun q hq => ?_⟩
    have s3 : Same H2 (upd H2 q (.tup [.int many, .ref pc, .ref pf])) := Same.new hq
    exact k (.ref q) many pc pf cy cells fs zs _ ⟨⟨q, rfl, upd_same⟩, s3 _ _ (t12 _ _ hp), (mk.keep t12).keep (TFr.same s3), fam, s3 _ _ ef, fok⟩ lc lm lz mz (hd2.keep s3) (ht2.ext s3) (((Fr3.of f1).trans f2).trans (Fr3.of (Fr2.same s3)))
abbrev sLawTable : Stmt := top 72
theorem scLawTable : FnScope ["plot"] ["plot"] (defScope sLawTable) := ⟨rfl, rfl, rfl, by decide +kernel, rfl, by decide +kernel, by decide +kernel⟩
theorem ok_plotTable {f CF C : Addr} {fd : FuncData} (F : Fun K "_law_table" "_law_table" sLawTable f fd) (T : Txt mg) (HFm : HasC P w K mg base "Family" CF ["self", "many", "cells"] 5 (spFam CF)) (HTb : HasC P w K mg base "Table" C ["self", "family", "forms"] 3 (spTab CF C)) : FnOk P w K mg base CX0 7 f fd ["plot"] (spPlotTable CF C) := by
  refine F.ok scLawTable (fun vs H Q E h => ?_) (fun cdv A outer s H vs Q E hr h => ?_)
  · obtain ⟨v, many, pc, pf, cy, cells, fs, rfl, _⟩ := h
    rfl
  · obtain ⟨v, many, pc, pf, cy, cells, fs, rfl, d, k⟩ := h
    obtain ⟨tp, rfl, htp⟩ := d.tup
    refine ⟨_, (pss_one (ps_ret (pe_makeH HTb (hr.mono (by decide)) rfl (pa_cons (pe_makeH HFm (hr.mono (by decide)) rfl (pa_cons (pe_ix ix_tup (pv 0) pe_int (fun _ _ => rfl)) (pa_cons (pe_ix ix_tup (pv 0) pe_int (fun _ _ => rfl)) pa_nil))) (pa_cons (pe_ix ix_tup (pv 0) pe_int (fun _ _ => rfl)) pa_nil))))), ?_⟩
    refine ⟨_, rfl, tp, _, _, _, rfl, rfl, sqT htp, at_of (j := 0) rfl rfl, _, rfl, tp, _, _, _, rfl, rfl, sqT htp, at_of (j := 1) rfl rfl, ?_⟩
    intro x dx nx ndx nex
    have s6 : Same H (upd (upd H dx (.own x)) x (.ins CF dx [])) := fun b o e => by rw [upd_ne (ne_of_none e nx), upd_ne (ne_of_none e ndx)]; exact e
    refine ⟨x, dx, many, pc, cy, cells, rfl, upd_same, s6 _ _ d.cp, d.cm.keep (TFr.same s6), d.fok, fun H1 hx kq => ⟨rfl, ?_⟩⟩
    have s1 : Same H H1 := fun b o e => kq b o (s6 b o e) (ne_of_none e nx)
    have d1 := d.same s1
    refine ⟨_, rfl, tp, _, _, _, rfl, rfl, sqT (s1 _ _ htp), at_of (j := 2) rfl rfl, ?_⟩
    obtain ⟨dxx, hx⟩ := hx
    intro y dy ny ndy ney
    have s7 : Same H1 (upd (upd H1 dy (.own y)) y (.ins C dy [])) := fun b o e => by rw [upd_ne (ne_of_none e ny), upd_ne (ne_of_none e ndy)]; exact e
    have lcy : cy.length = cells.length := Paired.length d.cm
    refine ⟨y, dy, x, many, pc, cy, pf, fs, rfl, upd_same, ⟨dxx, s7 _ _ hx⟩, (ne_of_none hx ny).symm, s7 _ _ d1.cp, s7 _ _ d1.fp, by rw [lcy]; exact d.forms, fun H2 hy kt => ⟨rfl, ?_⟩⟩
    have s2 : Same H1 H2 := fun b o e => kt b o (s7 b o e) (ne_of_none e ny)
    exact k y x H2 hy ⟨dxx, s2 _ _ hx⟩ (s1.free ny) (s1.trans s2)
abbrev sLawSpoken : Stmt := top 73
theorem scLawSpoken : FnScope ["plot", "form"] ["plot"] (defScope sLawSpoken) := ⟨rfl, rfl, rfl, by decide +kernel, rfl, by decide +kernel, by decide +kernel⟩
theorem ok_plotSpoken {f : Addr} {fd : FuncData} (F : Fun K "_law_spoken" "_law_spoken" sLawSpoken f fd) (T : Txt mg) (TS : mg "set" = none) : FnOk P w K mg base CX0 1 f fd ["plot"] spPlotSpoken := by
  refine F.ok scLawSpoken (fun vs H Q E h => ?_) (fun cdv A outer s H vs Q E hr h => ?_)
  · obtain ⟨v, many, pc, p, cy, cells, fs, rfl, _⟩ := h
    rfl
  · obtain ⟨v, many, pc, p, cy, cells, fs, rfl, pl, k⟩ := h
    have hp := pl.fp
    have few : fs.length < 64 := by have := pl.forms.len; have := pl.forms.few; omega
    obtain ⟨tp, rfl, htp⟩ := pl.tup
    refine ⟨_, (pss_one (ps_ret (pe_callB (cr_sortedTexts rfl) rfl T.sorted (by decide +kernel) (pa_cons (pe_callTy (cr_setTexts rfl) rfl TS (by decide +kernel) (pa_cons (pe_lc (own := [("form", 1)]) rfl scLawSpoken.nd (pi_tup (pe_ix ix_tup (pv 0) pe_int (fun _ _ => rfl))) (blkOk_by (N := ["plot", "form"]) (sc := defScope sLawSpoken) (by decide +kernel)) (fun _ _ _ _ _ => (pg_name (i := 1) scLawSpoken.nd rfl (by first | exact Or.inl rfl | exact Or.inr rfl))) (fun _ _ _ _ _ => pts_one (pt_cmpR op_notN (pv 1) pe_non (nomark _))) (fun _ _ _ _ _ => (pv 1))) pa_nil)) pa_nil)))), ?_⟩
    refine ⟨_, rfl, tp, _, _, _, rfl, rfl, sqT htp, at_of (j := 2) rfl rfl, p, rfl, ⟨_, sqT hp⟩, fun D hD => ?_⟩
    refine lc_tup (K := K) (a := p) (xs := fs.map formV) (fun i H4 => Same H H4 ∧ H4 D = some (.lst (((fs.take i).filterMap id).map V.str))) ⟨Same.new hD, upd_same⟩ (fun i H4 _ ⟨e, _⟩ => sqT (e _ _ hp)) ?_ ?_
    · rintro i v H4 hi ⟨s4, e4⟩
      rw [List.getElem?_map] at hi
      obtain ⟨fo, hfo, rfl⟩ := Option.map_eq_some_iff.mp hi
      have il := (List.getElem?_eq_some_iff.mp hfo).1
      refine ⟨rfl, _, rfl, rfl, _, rfl, ?_⟩
      cases fo with
      | none =>
        refine iteF ⟨s4, ?_⟩
        rw [List.take_add_one, hfo, List.filterMap_append]
        show H4 D = some (.lst ((_ ++ []).map V.str))
        rw [List.append_nil]
        exact e4
      | some z =>
        refine iteT ⟨_, rfl, _, e4, ?_, fun b o hb => by rw [upd_ne (ne_of_none hb hD)]; exact s4 _ _ hb, ?_⟩
        · rw [List.length_map]
          exact small1000 (Nat.le_trans (List.length_filterMap_le _ _) (Nat.le_trans (List.length_take_le' _ _) (by omega)))
        · rw [upd_same, List.take_add_one, hfo, List.filterMap_append, List.map_append]; rfl
    · rintro H4 ⟨s4, e4⟩
      rw [List.length_map, List.take_length] at e4
      have le : (fs.filterMap id).length ≤ fs.length := List.length_filterMap_le _ _
      refine ⟨D, fs.filterMap id, rfl, SqL.of e4, by omega, fun a c hc ha => ?_⟩
      change ∃ (a' : Addr) (S : Str → Bool) (n : Nat), [V.ref a] = [V.ref a'] ∧ _
      have cle := hc.le
      obtain ⟨us, und, umem, ulen⟩ := hc
      refine ⟨a, _, c, rfl, upd_same, by omega, fun xs q up mem len hq => ?_⟩
      have mm : ∀ z, z ∈ xs ↔ some z ∈ fs := fun z => by
        rw [mem, decide_eq_true_iff, List.mem_filterMap]
        exact ⟨fun ⟨a, h1, h2⟩ => by cases h2; exact h1, fun h => ⟨some z, h, rfl⟩⟩
      have same : ∀ z, z ∈ us ↔ z ∈ xs := fun z => by rw [umem, mem, decide_eq_true_iff]
      have s5 := (Same.new ha).trans (Same.new (o := .lst (xs.map V.str)) hq)
      refine k q xs _ ⟨up, mm, (count_unlike und same).2.mp (by omega)⟩ upd_same ?_ (s4.trans s5)
      exact s4.free ((Same.new ha).free hq)
end
end Xci

set_option maxHeartbeats 2000000
namespace Xci
open PySem PySem.Spec PyProof.Rows L2
section
variable {X : Cx} {pins : List (Addr × Obj)} {σ : L2.St} {H : Hp} {s : Shared} {a b : Addr} {r : Value} {d : V} {k : List Key} {A : Around} {E : Value → Shared → Prop}
/-- what a dict with tuples for keys tells at a key, which is laid there if it is new -/
theorem setdT {kvs : List (List Key × V)} {Q : Value → Shared → Prop} (hu : A.units + 1 < cLine) (I : Inv X pins σ H s) (e : H a = some (.dT kvs)) (eb : H b = some (.tup (k.map kV))) (rd : RelV d r) (hl : kvs.length < sizeLine)
    (there : ∀ v, valV kvs k = some v → ∀ (u : Value) (s' : Shared), Inv X pins σ H s' → RelV v u → Q u s') (new : valV kvs k = none → ∀ s' : Shared, Inv X pins σ (upd H a (.dT (putK kvs k d))) s' → Q r s') :
    wpAny (model X.prog X.w) A (call (.builtin "dict.setdefault") [.ref a, .ref b, r]) Q E s := by
  obtain ⟨z, hd, xs, rel, dd⟩ := dt_of I.hok e
  have room : xs.length ≤ sizeLine := Paired.length rel ▸ z
  have same := rel.val k
  refine call_setdefault_heap (hsz := room) (tupleKind_room_in1 hu) (key_of I.hok eb) hd dd (fun p hp => ?_) (fun no h' dd' hs => ?_)
  · rw [hp] at same
    cases q : valV kvs k with
    | none => rw [q] at same; exact same.elim
    | some v => rw [q] at same; exact there v q _ _ (I.tok _) same
  · rw [no] at same
    cases q : valV kvs k with
    | some v => rw [q] at same; exact same.elim
    | none =>
      obtain ⟨o', es, ep, ho, h2, h3, h4, _, h5⟩ := dd'
      have le : (putK kvs k d).length ≤ sizeLine := Nat.le_trans (length_putK kvs k d) hl
      refine new q _ (d_write I (by rw [e]; exact True.intro) hs ⟨o', ho⟩ ⟨le, hd, _, (rel.put k eb rd).keeps fun c ys ec => ?_, o', es, ep, ho, h2, h3, h4, h5⟩)
      rw [upd_ne (ne_of ec e nofun)]
      exact ec
/-- d.setdefault(y, z), y a tuple -/
def tSetdT (td ty tx : TE) : TE := fun σ H Q => td σ H fun x H1 => ∃ a, x = .ref a ∧ IsD H1 a ∧ ty σ H1 fun y H2 => tx σ H2 fun z H3 => ∃ (kvs : List (List Key × V)) (k : List Key) (b : Addr), H3 a = some (.dT kvs) ∧ y = .ref b ∧ H3 b = some (.tup (k.map kV)) ∧ kvs.length < sizeLine ∧
  (∀ v, valV kvs k = some v → Q v H3) ∧ (valV kvs k = none → Q z (upd H3 a (.dT (putK kvs k z))))
theorem pe_setdT {o e f : Expr} {td ty tx : TE} {apos cpos : Pos} (hu : X.A.units + 1 < cLine) (ho : PE X o td) (he : PE X e ty) (hf : PE X f tx) (m : M2 X o "setdefault" apos e f cpos) : PE X (.Call (.Attribute o "setdefault" apos) [e, f] [] cpos) (tSetdT td ty tx) where
  run pins s σ H Q I h := by
    refine wpAny_Call_method m.base m.few m.line PySem.F.plainAttrs_dict PySem.F.slot_dict_setdefault PySem.F.type_dict_setdefault (thn (ho.run pins s σ H _ I h) fun u s1 ⟨x, H1, I1, rx, a, ex, is, more⟩ => ?_)
    subst ex
    obtain rfl : u = Value.ref a := rx
    obtain ⟨t1, t2, _⟩ := isD_at I1 is
    refine ⟨t1, t2, ?_⟩
    rw [m.trees]
    refine Calls.callWith_builtin rfl (Calls.evalArgs_plain (Calls.spliced_cons (thn (he.run pins s1 σ H1 _ I1 more) fun u2 s2 ⟨y, H2, I2, ry, more2⟩ =>
      Calls.spliced_cons (thn (hf.run pins s2 σ H2 _ I2 more2) fun u3 s3 ⟨z, H3, I3, rz, kvs, k, b, ea, ey, eb, hl, there, new⟩ => Calls.spliced_nil ?_))))
    subst ey
    obtain rfl : u2 = Value.ref b := ry
    exact setdT hu I3 ea eb rz hl (fun v hv u s4 I4 ru => ⟨v, _, I4, ru, there v hv⟩) fun no s4 I4 => ⟨z, _, I4, rz, new no⟩
end
/-- the values of a dict with tuples for keys, one by one, while it is locked -/
def ItvT (d : Addr) (o : Obj) (kvs : List (List Key × V)) : It :=
  ⟨fun i H => H d = some (.frz o (.dT kvs)) ∧ i < kvs.length, fun i H x H' => H' = H ∧ ∃ k, kvs[i]? = some (k, x), fun i H => H d = some (.frz o (.dT kvs)) ∧ kvs.length ≤ i⟩
theorem walk_valsT {d : Addr} {o : Obj} {kvs : List (List Key × V)} : Walk (ItvT d o kvs) kvs.length (fun H => H d = some (.frz o (.dT kvs))) (fun i H x H' => H' = H ∧ ∃ k, kvs[i]? = some (k, x)) :=
  ⟨fun _ _ hi q => ⟨q, hi⟩, fun _ q => ⟨q, Nat.le_refl _⟩, fun _ _ _ _ _ _ y => y⟩
/-- the entries behind such a dict -/
theorem lockedT {X : Cx} {pins : List (Addr × Obj)} {σ : L2.St} {H : Hp} {s : Shared} {d : Addr} {o : Obj} {kvs : List (List Key × V)} (I : Inv X pins σ H s) (h : H d = some (.frz o (.dT kvs))) :
    (d == sysModules) = false ∧ s.heap.get? d = some o ∧ o.ExactDict ∧ ∃ (es : Array DictEntry) (ep : Nat), o.data = .dict es ep ∧ es.size = kvs.length ∧ ∀ (i : Nat) (k : List Key) (v : V), kvs[i]? = some (k, v) → ∃ en : DictEntry, es[i]? = some en ∧ RelV v en.val := by
  obtain ⟨hd, z, hs, xs, pr, o', es, ep, ho, hx, hdt, he, _⟩ := I.hok d _ h
  rw [hd] at ho
  cases ho
  have same : kvs.length = xs.length := Paired.length pr
  refine ⟨hs, hd, hx, es, ep, hdt, by rw [same]; exact size_of_entries he, fun i k v at_ => ?_⟩
  obtain ⟨x, hxs, _, _, rv⟩ := paired_get pr at_
  have q := entry_at he i
  rw [hxs] at q
  exact ⟨_, q, rv⟩
theorem turn_valsT {P : Program} {w : World} {K : PySem.W.Frag} {tg : Expr} {d it : Addr} {o : Obj} {kvs : List (List Key × V)} {es : Array DictEntry} {ep : Nat} (hod : o.data = .dict es ep) :
    Turn P w K tg (ItvT d o kvs) [it] it (fun i h => h.get? it = some (DVw.valOb d i es.size ep)) where
  mem := List.mem_singleton.mpr rfl
  obj i h st b hb := by
    cases List.mem_singleton.mp hb
    exact ⟨_, st, nofun⟩
  keep i h h' st k := k it (List.mem_singleton.mpr rfl) _ st
  self A i s Q E st h := wpAny_pyIter_valiter (i := i) (n := es.size) (ep := ep) (d := d) ⟨_, st, rfl, rfl⟩ h
  item := by
    intro X hP hw hK hc i pins s σ H E I hf st hg
    subst hP hw hK
    obtain ⟨hd, hi⟩ := hg
    obtain ⟨f0, f1, f2, f3, f4, f5⟩ := hf it (List.mem_singleton.mpr rfl)
    obtain ⟨hs, hgd, hx, es', ep', hdt, hsz, ent⟩ := lockedT I hd
    obtain ⟨rfl, rfl⟩ := dict_ep hod hdt
    obtain ⟨⟨k, v⟩, hkv⟩ : ∃ p, kvs[i]? = some p := ⟨kvs[i], List.getElem?_eq_getElem hi⟩
    obtain ⟨en, hen, rv⟩ := ent i k v hkv
    refine DVw.val_item st hgd hod rfl hen fun h' st' sb => ?_
    have I1 : Inv X pins σ H { s with heap := h' } := I.turned (t' := s.toks) (fun b ob hb e => (sb.2 b hb).trans e) f0 f1 f3 f4 f5
    exact ⟨en.val, rfl, go_of (s := { s with heap := h' }) st' rfl rfl (by decide) ⟨v, H, I1, rv, ⟨rfl, k, hkv⟩, st', fun b hb => (hf b hb).1⟩⟩
  done := by
    intro X hP hw hK hc i pins s σ H E I hf st hg
    subst hP hw hK
    obtain ⟨hd, hi⟩ := hg
    obtain ⟨f0, f1, f2, f3, f4, f5⟩ := hf it (List.mem_singleton.mpr rfl)
    obtain ⟨hs, hgd, hx, es', ep', hdt, hsz, ent⟩ := lockedT I hd
    obtain ⟨rfl, rfl⟩ := dict_ep hod hdt
    exact DVw.val_end (I.ok.hd hc) st hgd hod rfl (Array.getElem?_eq_none (by omega)) fun h' eb => ⟨rfl, I.turned (t' := s.toks) (fun b ob hb e => eb b ob hb e) f0 f1 f3 f4 f5⟩
/-- d.values() of a dict of the kind dict, whatever stands in it -/
theorem values_view {P : Program} {w : World} {A : Around} {E : Value → Shared → Prop} {s : Shared} {d : Addr} {o : Obj} {Q : Value → Shared → Prop} (hs : (d == sysModules) = false) (hd : s.heap.get? d = some o) (hx : o.ExactDict)
    (q : Q (.ref s.heap.objs.size) { s with heap := s.heap.push (DSub.viewOb "dict_values" d) }) : wpAny (model P w) A (call (.builtin "dict.values") [.ref d]) Q E s := by
  have T : s.TypeIs (.ref d) "dict" := ⟨o, hd, hx.1⟩
  have M : MeetsIn P w (Builtin.«dict.values» ⟨[.ref d], []⟩) (fun _ R s => s.TypeIs (.ref d) "dict" ∧ R (.ok (.ret (.ref s.heap.objs.size))) { s with heap := s.heap.push (DSub.viewOb "dict_values" d) }) := .of_wp fun A R s ⟨ty, h⟩ => by
    refine wpAny_bind (m := Builtin.Dict.noArgs "values" ⟨[.ref d], []⟩) ?_
    unfold Builtin.Dict.noArgs
    refine wpAny_bind (wpAny_notOrdered_dict ty (wpAny_pure (a := d) ?_))
    have all : Builtin.Dict.showsAll d = pure () := by
      unfold Builtin.Dict.showsAll
      rw [hs]
      rfl
    refine wpAny_bind (m := Builtin.Dict.showsAll d) ?_
    rw [all]
    exact wpAny_pure (wpAny_bind (wpAny_newObj_type (wpAny_pure ⟨_, rfl, h⟩)))
  exact call_meetsIn PySem.F.slot_dict_values T PySem.F.entry_dict_values (PySem.F.args_dict_values_1 _) M ⟨T, q⟩
def iValsT (td : TE) : TI := fun σ H R => td σ H fun x H1 => ∃ d o kvs, x = .ref d ∧ H1 d = some (.frz o (.dT kvs)) ∧ R (ItvT d o kvs) H1
theorem pi_valuesT {X : Cx} {tg e : Expr} {td : TE} {apos cpos : Pos} (he : PE X e td) (hbase : attributeBase e "values" X.env (eval e X.env) = eval e X.env := by rfl) (hline : (apos.endLine == cpos.line) = true := by rfl) : PI X tg (.Call (.Attribute e "values" apos) [] [] cpos) (iValsT td) := by
    refine ⟨fun pins s σ H R I h => ?_⟩
    refine wpAny_Call_method (T := "dict") (id := "dict.values") hbase rfl hline F.plainAttrs_dict F.slot_dict_values F.type_dict_values (thn (he.run pins s σ H _ I h) fun u s1 ⟨x, H1, I1, rx, d, o, kvs, ex, hd, q⟩ => ?_)
    subst ex
    obtain rfl : u = Value.ref d := rx
    obtain ⟨hs, hgd, hx, es, ep, hdt, hsz, ent⟩ := lockedT I1 hd
    refine ⟨⟨o, hgd, hx.1⟩, fun b z => ?_, ?_⟩
    · cases z
      exact ⟨o, hgd, hx.2.1⟩
    have I2 : Inv X pins σ H1 { s1 with heap := s1.heap.push (DSub.viewOb "dict_values" d) } := I1.kept (t' := s1.toks) fun b ob q => Heap.get?_push_of_some _ q
    refine Calls.callWith_builtin rfl (PySem.evalArgs_none ?_)
    refine values_view hs hgd hx ?_
    refine DSub.iter_vals (a := d) (Heap.get?_push_size _ rfl) (Heap.get?_push_of_some _ hgd) hdt ?_
    exact pi_one (tk := s1.toks) I2 _ (turn_valsT hdt) (Heap.get?_push_size _ rfl) q
end Xci

namespace Xci
open PySem L2
/-! ### numbers heaped by what stands at them -/
def posN (gs : List (List Int)) (g : List Int) (n : Nat) : List Nat := (List.range n).filter fun i => decide (gs[i]? = some g)
def keysOf (gs : List (List Int)) : List (List Int) := gs.foldl (fun ks g => if g ∈ ks then ks else ks ++ [g]) []
theorem keys_snoc (gs : List (List Int)) (g : List Int) : keysOf (gs ++ [g]) = if g ∈ keysOf gs then keysOf gs else keysOf gs ++ [g] := by
  unfold keysOf
  rw [List.foldl_append]
  rfl
theorem mem_keys (gs : List (List Int)) : ∀ g, g ∈ keysOf gs ↔ g ∈ gs := by
  refine snoc_ind (M := fun gs => ∀ g, g ∈ keysOf gs ↔ g ∈ gs) (fun g => by simp [keysOf]) (fun l x ih g => ?_) gs
  rw [keys_snoc, List.mem_append, List.mem_singleton]
  by_cases h : x ∈ keysOf l
  · rw [if_pos h, ih g]
    exact ⟨.inl, fun q => q.elim id fun e => e ▸ (ih x).mp h⟩
  · rw [if_neg h, List.mem_append, List.mem_singleton, ih g]
theorem nodup_keys (gs : List (List Int)) : (keysOf gs).Nodup := by
  refine snoc_ind (M := fun gs => (keysOf gs).Nodup) List.nodup_nil (fun l x ih => ?_) gs
  rw [keys_snoc]
  by_cases h : x ∈ keysOf l
  · rw [if_pos h]; exact ih
  · rw [if_neg h]
    refine List.nodup_append.mpr ⟨ih, List.pairwise_singleton _ x, fun a ha b hb e => h ?_⟩
    rw [← List.mem_singleton.mp hb, ← e]
    exact ha
theorem keys_len (gs : List (List Int)) : (keysOf gs).length ≤ gs.length := List.Nodup.length_le_of_subset (nodup_keys gs) fun x hx => (mem_keys gs x).mp hx
theorem keys_take {gs : List (List Int)} {i : Nat} {g : List Int} (h : gs[i]? = some g) : keysOf (gs.take (i + 1)) = if g ∈ keysOf (gs.take i) then keysOf (gs.take i) else keysOf (gs.take i) ++ [g] := by
  rw [List.take_add_one, h]
  exact keys_snoc _ _
theorem pos_mem {gs : List (List Int)} {g : List Int} {n j : Nat} : j ∈ posN gs g n ↔ j < n ∧ gs[j]? = some g := by
  unfold posN
  rw [List.mem_filter, List.mem_range, decide_eq_true_eq]
theorem pos_same {gs : List (List Int)} {i : Nat} {g : List Int} (h : gs[i]? = some g) : posN gs g (i + 1) = posN gs g i ++ [i] := by
  unfold posN
  rw [List.range_succ, List.filter_append, List.filter_cons, List.filter_nil, if_pos (decide_eq_true h)]
theorem pos_other {gs : List (List Int)} {i : Nat} {g g' : List Int} (h : gs[i]? = some g) (n : g' ≠ g) : posN gs g' (i + 1) = posN gs g' i := by
  unfold posN
  rw [List.range_succ, List.filter_append, List.filter_cons, List.filter_nil, if_neg, List.append_nil]
  intro e
  have := of_decide_eq_true e
  rw [h] at this
  exact n (Option.some.inj this).symm
theorem pos_new {gs : List (List Int)} {i : Nat} {g : List Int} (h : g ∉ keysOf (gs.take i)) : posN gs g i = [] := by
  refine List.eq_nil_iff_forall_not_mem.mpr fun j hj => h ?_
  obtain ⟨lt, e⟩ := pos_mem.mp hj
  refine (mem_keys _ _).mpr (List.mem_of_getElem? (i := j) ?_)
  rw [List.getElem?_take, if_pos lt]
  exact e
theorem pos_len (gs : List (List Int)) (g : List Int) (n : Nat) : (posN gs g n).length ≤ n := by
  have := List.length_filter_le (fun i => decide (gs[i]? = some g)) (List.range n)
  rw [List.length_range] at this
  exact this
/-- the heaps, ascending -/
structure Grp (gs : List (List Int)) (ds : List (List Int)) : Prop where
  up : ds.Pairwise leC
  pm : ds.Perm ((keysOf gs).map fun g => nat2 (posN gs g gs.length))
theorem Grp.one {gs ds es : List (List Int)} (h : Grp gs ds) (k : Grp gs es) : ds = es := sortedU h.up k.up (h.pm.trans k.pm.symm)
theorem Grp.at_ {gs ds : List (List Int)} (h : Grp gs ds) {d : List Int} (m : d ∈ ds) : ∃ g ∈ gs, d = nat2 (posN gs g gs.length) := by
  obtain ⟨g, hg, e⟩ := List.mem_map.mp (h.pm.subset m)
  exact ⟨g, (mem_keys gs g).mp hg, e.symm⟩
theorem mem_nums {js : List Nat} {x : Int} : x ∈ nat2 js ↔ ∃ j ∈ js, x = (j : Int) := by
  unfold nat2
  rw [List.mem_map]
  exact ⟨fun ⟨j, a, b⟩ => ⟨j, a, b.symm⟩, fun ⟨j, a, b⟩ => ⟨j, a, b.symm⟩⟩
theorem Grp.len {gs ds : List (List Int)} (h : Grp gs ds) : ds.length ≤ gs.length := by
  rw [h.pm.length_eq, List.length_map]
  exact keys_len gs
theorem Grp.row {gs ds : List (List Int)} (h : Grp gs ds) {d : List Int} (m : d ∈ ds) : d.length ≤ gs.length := by
  obtain ⟨g, _, rfl⟩ := h.at_ m
  rw [nat2_len]
  exact pos_len _ _ _
/-- a heap lies in just one of the later ones -/
theorem Grp.later {gs gs' ds es : List (List Int)} (h : Grp gs ds) (k : Grp gs' es) (len : gs'.length = gs.length) (st : ∀ i j : Nat, gs[i]? = gs[j]? → gs'[i]? = gs'[j]?) {d : List Int} (m : d ∈ ds) :
    ∃ (x : Int) (r : List Int) (o : List Int), d = x :: r ∧ es.filter (fun o => decide (x ∈ o)) = [o] ∧ ∀ y ∈ d, y ∈ o := by
  obtain ⟨g, hg, rfl⟩ := h.at_ m
  obtain ⟨j, hj⟩ := List.mem_iff_getElem?.mp hg
  have jl := (List.getElem?_eq_some_iff.mp hj).1
  have jm : j ∈ posN gs g gs.length := pos_mem.mpr ⟨jl, hj⟩
  obtain ⟨j0, js, ej⟩ : ∃ j0 js, posN gs g gs.length = j0 :: js := by
    cases e : posN gs g gs.length with
    | nil => rw [e] at jm; cases jm
    | cons a b => exact ⟨a, b, rfl⟩
  obtain ⟨l0, h0⟩ := pos_mem.mp (show j0 ∈ posN gs g gs.length by rw [ej]; exact List.mem_cons_self)
  have l0' : j0 < gs'.length := by omega
  have g0 : gs'[j0]? = some gs'[j0] := List.getElem?_eq_getElem l0'
  have kin : gs'[j0] ∈ keysOf gs' := (mem_keys _ _).mpr (List.getElem_mem l0')
  have in_iff : ∀ g', ((j0 : Int) ∈ nat2 (posN gs' g' gs'.length)) ↔ g' = gs'[j0] := fun g' => by
    rw [mem_nums]
    constructor
    · rintro ⟨q, hq, e⟩
      have : q = j0 := by omega
      subst this
      have := (pos_mem.mp hq).2
      rw [g0] at this
      exact (Option.some.inj this).symm
    · rintro rfl
      exact ⟨j0, pos_mem.mpr ⟨l0', g0⟩, rfl⟩
  have pf : (es.filter fun o => decide ((j0 : Int) ∈ o)).Perm (((keysOf gs').filter fun g' => decide (g' = gs'[j0])).map fun g' => nat2 (posN gs' g' gs'.length)) := by
    refine (k.pm.filter _).trans ?_
    rw [List.filter_map]
    refine List.Perm.of_eq (congrArg _ (List.filter_congr fun g' _ => ?_))
    exact decide_eq_decide.mpr (in_iff g')
  have one : ((keysOf gs').filter fun g' => decide (g' = gs'[j0])) = [gs'[j0]] := by
    have nd : ((keysOf gs').filter fun g' => decide (g' = gs'[j0])).Nodup := List.Sublist.nodup List.filter_sublist (nodup_keys gs')
    have all : ∀ x ∈ ((keysOf gs').filter fun g' => decide (g' = gs'[j0])), x = gs'[j0] := fun x hx => of_decide_eq_true (List.mem_filter.mp hx).2
    have me : gs'[j0] ∈ ((keysOf gs').filter fun g' => decide (g' = gs'[j0])) := List.mem_filter.mpr ⟨kin, decide_eq_true rfl⟩
    match hh : (keysOf gs').filter fun g' => decide (g' = gs'[j0]) with
    | [] => rw [hh] at me; cases me
    | [a] => rw [hh] at me; rw [List.mem_singleton.mp me]
    | a :: b :: r =>
      rw [hh] at nd all
      have e1 := all a List.mem_cons_self
      have e2 := all b (List.mem_cons_of_mem _ List.mem_cons_self)
      exact absurd (List.mem_cons.mpr (.inl (e1.trans e2.symm))) (List.nodup_cons.mp nd).1
  rw [one] at pf
  have ef := List.perm_singleton.mp pf
  refine ⟨(j0 : Int), nat2 js, _, by rw [ej]; rfl, ef, fun y hy => ?_⟩
  obtain ⟨q, hq, rfl⟩ := mem_nums.mp hy
  obtain ⟨lq, eq⟩ := pos_mem.mp hq
  refine mem_nums.mpr ⟨q, pos_mem.mpr ⟨by omega, ?_⟩, rfl⟩
  rw [← g0]
  exact st q j0 (eq.trans h0.symm)
/-- unlike things: each number alone -/
theorem Grp.alone {gs : List (List Int)} (nd : gs.Nodup) : Grp gs ((List.range gs.length).map fun i => [((i : Nat) : Int)]) := by
  have all : ∀ n, n ≤ gs.length → keysOf (gs.take n) = gs.take n := fun n => by
    induction n with
    | zero => intro _; rfl
    | succ n ih =>
      intro le
      have e : gs[n]? = some gs[n] := List.getElem?_eq_getElem (by omega)
      rw [keys_take e, ih (by omega), if_neg, List.take_add_one, e]
      · rfl
      · intro m
        obtain ⟨i, hi⟩ := List.mem_iff_getElem?.mp m
        rw [List.getElem?_take] at hi
        split at hi
        · rename_i lt
          have := nd_ix nd hi e
          omega
        · cases hi
  have ek : keysOf gs = gs := by
    have := all gs.length (Nat.le_refl _)
    rw [List.take_length] at this
    exact this
  refine ⟨?_, ?_⟩
  · rw [List.pairwise_map]
    refine List.pairwise_lt_range.imp fun {a b} lt => ?_
    show HT.lexLt [((b : Nat) : Int)] [((a : Nat) : Int)] = false
    rw [HT.lexLt_cons, if_neg (by omega)]
    exact decide_eq_false (by omega)
  · rw [ek]
    refine List.Perm.of_eq (List.ext_getElem? fun i => ?_)
    rw [List.getElem?_map, List.getElem?_map]
    by_cases lt : i < gs.length
    · rw [List.getElem?_range lt, List.getElem?_eq_getElem lt]
      show some [((i : Nat) : Int)] = some (nat2 (posN gs gs[i] gs.length))
      have : posN gs gs[i] gs.length = [i] := by
        have nd' : (posN gs gs[i] gs.length).Nodup := List.Sublist.nodup List.filter_sublist List.nodup_range
        have me : i ∈ posN gs gs[i] gs.length := pos_mem.mpr ⟨lt, List.getElem?_eq_getElem lt⟩
        have al : ∀ j ∈ posN gs gs[i] gs.length, j = i := fun j hj => by
          obtain ⟨l, e⟩ := pos_mem.mp hj
          exact nd_ix nd e (List.getElem?_eq_getElem lt)
        match hh : posN gs gs[i] gs.length with
        | [] => rw [hh] at me; cases me
        | [a] => rw [hh] at me; rw [List.mem_singleton.mp me]
        | a :: b :: r =>
          rw [hh] at nd' al
          exact absurd (List.mem_cons.mpr (.inl ((al a List.mem_cons_self).trans (al b (List.mem_cons_of_mem _ List.mem_cons_self)).symm))) (List.nodup_cons.mp nd').1
      rw [this]
      rfl
    · rw [List.getElem?_eq_none (by rw [List.length_range]; omega), List.getElem?_eq_none (by omega)]
      rfl
/-! ### the dict of heaps -/
def keyI (g : List Int) : List Key := g.map Sum.inl
theorem keyI_kV (g : List Int) : (keyI g).map kV = g.map V.int := by
  unfold keyI
  rw [List.map_map]
  rfl
theorem keyI_inj {g h : List Int} (e : keyI g = keyI h) : g = h := by
  induction g generalizing h with
  | nil =>
    cases h with
    | nil => rfl
    | cons a r => cases e
  | cons x g ih =>
    cases h with
    | nil => cases e
    | cons a r =>
      have e' : Sum.inl x :: keyI g = Sum.inl a :: keyI r := e
      injection e' with e1 e2
      injection e1 with e1
      rw [e1, ih e2]
/-- each key with the list that holds its numbers, all of them new since H0 -/
abbrev Heaps (H0 H : Hp) (gs : List (List Int)) (i : Nat) (kvs : List (List Key × V)) (ks : List (List Int)) : Prop :=
  Paired (fun kv g => kv.1 = keyI g ∧ ∃ l, kv.2 = V.ref l ∧ H0 l = none ∧ H l = some (.lst ((nat2 (posN gs g i)).map V.int))) kvs ks
theorem heaps_there {H0 H : Hp} {gs : List (List Int)} {i : Nat} {g : List Int} : ∀ {kvs : List (List Key × V)} {ks : List (List Int)}, Heaps H0 H gs i kvs ks → g ∈ ks → ks.Nodup → ∃ (j : Nat) (l : Addr), ks[j]? = some g ∧ kvs[j]? = some (keyI g, .ref l) ∧ valV kvs (keyI g) = some (.ref l) ∧ H0 l = none ∧ H l = some (.lst ((nat2 (posN gs g i)).map V.int))
  | _, _, .nil, h, _ => by cases h
  | (k, v) :: _, g' :: _, .cons ⟨e, l, ev, h0, hl⟩ t, h, nd => by
    by_cases q : g' = g
    · subst q
      have e : k = keyI g' := e
      have ev : v = .ref l := ev
      subst e ev
      exact ⟨0, l, rfl, rfl, valV_pos rfl, h0, hl⟩
    · have hm : g ∈ _ := (List.mem_cons.mp h).resolve_left fun z => q z.symm
      obtain ⟨j, l, a, b, c, d⟩ := heaps_there t hm (List.nodup_cons.mp nd).2
      have e : k = keyI g' := e
      exact ⟨j + 1, l, a, b, by rw [valV_neg (fun z => q (keyI_inj (e.symm.trans z)))]; exact c, d⟩
theorem heaps_new {H0 H : Hp} {gs : List (List Int)} {i : Nat} {g : List Int} : ∀ {kvs : List (List Key × V)} {ks : List (List Int)}, Heaps H0 H gs i kvs ks → g ∉ ks → valV kvs (keyI g) = none
  | _, _, .nil, _ => rfl
  | (k, v) :: _, g' :: _, .cons ⟨e, _⟩ t, h => by
    have e : k = keyI g' := e
    rw [valV_neg (fun z => h (List.mem_cons.mpr (.inl (keyI_inj (e.symm.trans z)).symm)))]
    exact heaps_new t fun q => h (List.mem_cons_of_mem _ q)
theorem hu1 {A : Around} {k : Nat} (hr : Room k A) : A.units + 1 < cLine := by have := hu64 hr; omega
theorem either_of {f : Bool → Sp} {w : Bool} {vs : List V} {H : Hp} {Q : VK} {E : XK} (h : f w vs H Q E) : spEither f vs H Q E := by
  cases w
  · exact .inr h
  · exact .inl h
theorem Paired.mapIx {α β : Type} {F G : α → β → Prop} : ∀ {xs : List α} {ys : List β}, Paired F xs ys → (∀ (i : Nat) (x : α) (y : β), xs[i]? = some x → ys[i]? = some y → F x y → G x y) → Paired G xs ys
  | _, _, .nil, _ => .nil
  | _, _, .cons h t, g => .cons (g 0 _ _ rfl rfl h) (Paired.mapIx t fun i x y a b => g (i + 1) x y a b)
/-- the lists of the heaps stand as they stood -/
theorem heaps_keep {H0 H H' : Hp} {gs : List (List Int)} {i : Nat} {kvs : List (List Key × V)} {ks : List (List Int)} (h : Heaps H0 H gs i kvs ks) (keep : ∀ l xs, H l = some (.lst xs) → H' l = some (.lst xs)) : Heaps H0 H' gs i kvs ks :=
  Paired.mapIx h fun _ _ _ _ _ ⟨e, l, ev, h0, hl⟩ => ⟨e, l, ev, h0, keep l _ hl⟩
/-- the next number, at a thing that has a heap -/
theorem heaps_old {H0 H : Hp} {gs : List (List Int)} {i : Nat} {g : List Int} {kvs : List (List Key × V)} {ks : List (List Int)} (h : Heaps H0 H gs i kvs ks) (nd : (kvs.map Prod.snd).Nodup) (hg : gs[i]? = some g) {j : Nat} {l : Addr} (hk : ks[j]? = some g) (hv : kvs[j]? = some (keyI g, V.ref l)) (ndk : ks.Nodup) :
    Heaps H0 (upd H l (.lst ((nat2 (posN gs g i)).map V.int ++ [.int (i : Int)]))) gs (i + 1) kvs ks :=
  Paired.mapIx h fun n kv g' a b ⟨e, m, ev, h0, hl⟩ => by
    by_cases q : n = j
    · subst q
      rw [hk] at b
      obtain rfl := Option.some.inj b
      rw [hv] at a
      obtain rfl := Option.some.inj a
      have : l = m := by
        have ev : V.ref l = V.ref m := ev
        injection ev
      subst this
      refine ⟨e, l, rfl, h0, ?_⟩
      rw [upd_same, pos_same hg, nat2_app, List.map_append]
      rfl
    · have ne : m ≠ l := fun z => q (by
        subst z
        refine nd_ix nd (x := V.ref m) ?_ ?_
        · rw [List.getElem?_map, a]
          exact congrArg some ev
        · rw [List.getElem?_map, hv]
          rfl)
      have ng : g' ≠ g := fun z => q (by
        subst z
        exact nd_ix ndk b hk)
      refine ⟨e, m, ev, h0, ?_⟩
      rw [upd_ne ne, pos_other hg ng]
      exact hl
/-- .. at a new thing: its list at e holds the number -/
theorem heaps_add {H0 H H' : Hp} {gs : List (List Int)} {i : Nat} {g : List Int} {kvs : List (List Key × V)} {ks : List (List Int)} {e : Addr} (h : Heaps H0 H gs i kvs ks) (hg : gs[i]? = some g) (new : g ∉ ks) (emp : posN gs g i = []) (h0 : H0 e = none)
    (keep : ∀ l xs, H l = some (.lst xs) → H' l = some (.lst xs)) (at_ : H' e = some (.lst [.int (i : Int)])) : Heaps H0 H' gs (i + 1) (kvs ++ [(keyI g, .ref e)]) (ks ++ [g]) := by
  refine Paired.app (Paired.mapIx h fun n kv g' a b ⟨ek, m, ev, h1, hl⟩ => ⟨ek, m, ev, h1, ?_⟩) (.cons ⟨rfl, e, rfl, h0, ?_⟩ .nil)
  · rw [pos_other hg fun z => new (by rw [← z]; exact List.mem_of_getElem? b)]
    exact keep m _ hl
  · rw [at_, pos_same hg, emp]
    rfl
theorem heaps_ne {H0 H : Hp} {gs : List (List Int)} {i : Nat} {kvs : List (List Key × V)} {ks : List (List Int)} {e : Addr} (h : Heaps H0 H gs i kvs ks) (free : H e = none) : V.ref e ∉ kvs.map Prod.snd := fun m => by
  obtain ⟨kv, hkv, ev⟩ := List.mem_map.mp m
  obtain ⟨n, hn⟩ := List.getElem?_of_mem hkv
  obtain ⟨g, _, _, l, el, _, hl⟩ := Paired.get h hn
  rw [ev] at el
  injection el with el
  subst el
  rw [free] at hl
  cases hl
theorem nodup_snoc {xs : List V} {x : V} (h : xs.Nodup) (n : x ∉ xs) : (xs ++ [x]).Nodup := List.nodup_append.mpr ⟨h, List.pairwise_singleton _ x, fun a ha b hb e => n (by rw [← List.mem_singleton.mp hb, ← e]; exact ha)⟩
def spAlike (CF : Addr) (w : Bool) : Sp := fun vs H Q _ => ∃ (fam rp : Addr) (many : Int) (pc : Addr) (cy : List V) (cells : List (List Int)) (ys : List V) (rs : List Rl), vs = [.ref fam, .ref rp] ∧ FamAt CF H fam many pc ∧ H pc = some (.tup cy) ∧ Mks H cy cells ∧ FamOk many cells ∧ RlsAt w H rp ys rs ∧
  ∀ (q : Addr) (zs : List V) (ds : List (List Int)) (H' : Hp), Grp (cells.map (behindR rs)) ds → H' q = some (.lst zs) → Mks H' zs ds → Same H H' → H q = none → Q (.ref q) H'
def spLawHeaps : Sp := fun vs H Q _ => ∃ (pc rp : Addr) (cy : List V) (cells : List (List Int)) (ys : List V) (rs : List Rl), vs = [.ref pc, .ref rp] ∧ H pc = some (.tup cy) ∧ Mks H cy cells ∧ cells.length ≤ 24 ∧ (∀ c ∈ cells, MarksOk 6 c) ∧ H rp = some (.lst ys) ∧ Rls H ys rs ∧ (∀ r ∈ rs, RlOk r) ∧
  ∀ (q : Addr) (zs : List V) (ds : List (List Int)) (H' : Hp), Grp (cells.map (behindR rs)) ds → H' q = some (.lst zs) → Mks H' zs ds → Same H H' → H q = none → Q (.ref q) H'
theorem tfr_not {H : Hp} {d : Addr} {u o : HO} (h : H d = some u) (n : ∀ xs, u ≠ .tup xs) : TFr H (upd H d o) := fun q xs e => by
  rw [upd_ne fun z => ?_]
  · exact e
  · subst z
    rw [h] at e
    exact n xs (Option.some.inj e)
/-- where the loop stands: the dict at d, nothing of H0 touched -/
structure Lots (H0 : Hp) (d : Addr) (gs : List (List Int)) (i : Nat) (kvs : List (List Key × V)) (H : Hp) : Prop where
  s : Same H0 H
  d : H d = some (.dT kvs)
  hp : Heaps H0 H gs i kvs (keysOf (gs.take i))
  nd : (kvs.map Prod.snd).Nodup
/-- .. and the list of the thing that comes next is l -/
structure LotsAt (H0 : Hp) (d : Addr) (gs : List (List Int)) (i : Nat) (g : List Int) (l : Addr) (kvs : List (List Key × V)) (j : Nat) (H : Hp) : Prop where
  s : Same H0 H
  d : H d = some (.dT kvs)
  hp : Heaps H0 H gs i kvs (keysOf (gs.take (i + 1)))
  nd : (kvs.map Prod.snd).Nodup
  k : (keysOf (gs.take (i + 1)))[j]? = some g
  v : kvs[j]? = some (keyI g, V.ref l)
theorem Lots.len {H0 H : Hp} {d : Addr} {gs : List (List Int)} {i : Nat} {kvs : List (List Key × V)} (h : Lots H0 d gs i kvs H) : kvs.length ≤ i := by
  have a := Paired.length h.hp
  have b := keys_len (gs.take i)
  have c := List.length_take_le i gs
  omega
theorem Lots.same {H0 H H' : Hp} {d : Addr} {gs : List (List Int)} {i : Nat} {kvs : List (List Key × V)} (h : Lots H0 d gs i kvs H) (f : Same H H') : Lots H0 d gs i kvs H' := ⟨h.s.trans f, f _ _ h.d, heaps_keep h.hp fun l xs e => f _ _ e, h.nd⟩
theorem setd_heaps {H0 H : Hp} {d b e : Addr} {gs : List (List Int)} {i : Nat} {g : List Int} {kvs : List (List Key × V)} {Q : VK} (h : Lots H0 d gs i kvs H) (n0 : H0 d = none) (hg : gs[i]? = some g) (i24 : i < 24) (hb : H b = some (.tup (g.map V.int))) (he : H e = none)
    (G : ∀ (kvs' : List (List Key × V)) (j : Nat) (l : Addr) (H' : Hp), LotsAt H0 d gs i g l kvs' j H' → (∀ a o, H a = some o → a ≠ d → H' a = some o) → Q (.ref l) H') :
    ∃ (kvs0 : List (List Key × V)) (k : List Key) (b' : Addr), (upd H e (.lst [])) d = some (.dT kvs0) ∧ V.ref b = .ref b' ∧ (upd H e (.lst [])) b' = some (.tup (k.map kV)) ∧ kvs0.length < sizeLine ∧
      (∀ v, valV kvs0 k = some v → Q v (upd H e (.lst []))) ∧ (valV kvs0 k = none → Q (.ref e) (upd (upd H e (.lst [])) d (.dT (putK kvs0 k (.ref e))))) := by
  have ll := h.len
  have se : Same H (upd H e (.lst [])) := Same.new he
  have h1 := h.same se
  refine ⟨kvs, keyI g, b, se _ _ h.d, rfl, by rw [keyI_kV]; exact se _ _ hb, small1000 (by omega), fun v hv => ?_, fun no => ?_⟩
  · by_cases m : g ∈ keysOf (gs.take i)
    · obtain ⟨j, l, a, c, x, _, _⟩ := heaps_there h1.hp m (nodup_keys _)
      rw [x] at hv
      obtain rfl := Option.some.inj hv
      have ek : keysOf (gs.take (i + 1)) = keysOf (gs.take i) := by rw [keys_take hg, if_pos m]
      exact G kvs j l _ ⟨h1.s, h1.d, by rw [ek]; exact h1.hp, h1.nd, by rw [ek]; exact a, c⟩ fun a o e _ => se _ _ e
    · rw [heaps_new h1.hp m] at hv
      cases hv
  · have m : g ∉ keysOf (gs.take i) := fun m => by
      obtain ⟨_, l, _, _, x, _⟩ := heaps_there h1.hp m (nodup_keys _)
      rw [no] at x
      cases x
    have ek : keysOf (gs.take (i + 1)) = keysOf (gs.take i) ++ [g] := by rw [keys_take hg, if_neg m]
    have dn : e ≠ d := fun z => by
      rw [z, h.d] at he
      cases he
    have kl : kvs.length = (keysOf (gs.take i)).length := Paired.length h.hp
    have e0 : H0 e = none := h.s.free he
    rw [putK_new _ no]
    have keep : ∀ l xs, (upd H e (.lst [])) l = some (.lst xs) → (upd (upd H e (.lst [])) d (.dT (kvs ++ [(keyI g, .ref e)]))) l = some (.lst xs) := fun l xs el => by
      rw [upd_ne (ne_of el h1.d nofun)]
      exact el
    refine G _ kvs.length e _ ⟨fun a o ea => ?_, upd_same, ?_, ?_, ?_, ?_⟩ fun a o ea na => ?_
    · rw [upd_ne (ne_of_none ea n0)]
      exact h1.s _ _ ea
    · rw [ek]
      refine Paired.app (heaps_keep h1.hp keep) (.cons ⟨rfl, e, rfl, e0, ?_⟩ .nil)
      rw [pos_new m]
      exact keep _ _ upd_same
    · rw [List.map_append]
      exact nodup_snoc h.nd (heaps_ne h.hp he)
    · rw [ek, kl, List.getElem?_append_right (Nat.le_refl _), Nat.sub_self]
      rfl
    · rw [List.getElem?_append_right (Nat.le_refl _), Nat.sub_self]
      rfl
    · rw [upd_ne na]
      exact se _ _ ea
theorem LotsAt.list {H0 H : Hp} {d l : Addr} {gs : List (List Int)} {i j : Nat} {g : List Int} {kvs : List (List Key × V)} (h : LotsAt H0 d gs i g l kvs j H) : H l = some (.lst ((nat2 (posN gs g i)).map V.int)) ∧ H0 l = none := by
  obtain ⟨g', hk, _, l', e, n, a⟩ := Paired.get h.hp h.v
  rw [h.k] at hk
  obtain rfl := Option.some.inj hk
  have e : V.ref l = V.ref l' := e
  injection e with e
  subst e
  exact ⟨a, n⟩
theorem LotsAt.push {H0 H : Hp} {d l : Addr} {gs : List (List Int)} {i j : Nat} {g : List Int} {kvs : List (List Key × V)} (h : LotsAt H0 d gs i g l kvs j H) (hg : gs[i]? = some g) : Lots H0 d gs (i + 1) kvs (upd H l (.lst ((nat2 (posN gs g i)).map V.int ++ [.int (i : Int)]))) := by
  obtain ⟨a, n⟩ := h.list
  refine ⟨fun b o e => ?_, ?_, heaps_old h.hp h.nd hg h.k h.v (nodup_keys _), h.nd⟩
  · rw [upd_ne (ne_of_none e n)]
    exact h.s _ _ e
  · rw [upd_ne (ne_of h.d a nofun)]
    exact h.d
theorem Lots.start {H0 : Hp} {d : Addr} {gs : List (List Int)} (n0 : H0 d = none) : Lots H0 d gs 0 [] (upd H0 d (.dT [])) := ⟨Same.new n0, upd_same, .nil, List.nodup_nil⟩
end Xci

namespace Xci
open PySem L2
/-- the address z stands at p, the others as before -/
def setAS (g : Str → Addr) (z : Str) (p : Addr) (y : Str) : Addr := if y = z then p else g y
theorem setGS_ref {g : Str → Addr} {z : Str} {p : Addr} : setG (refV g) z (.ref p) = refV (setAS g z p) := by
  funext y
  by_cases h : y = z <;> simp [setG, setAS, refV, h]
section
variable {P : Program} {w : World} {K : PySem.W.Frag} {mg : Str → Option Value} {base : Heap}
abbrev sLawCommon : Stmt := top 66
theorem scLawCommon : FnScope ["cells", "mark", "cell"] ["cells"] (defScope sLawCommon) := ⟨rfl, rfl, rfl, by decide +kernel, rfl, by decide +kernel, by decide +kernel⟩
set_option maxHeartbeats 2000000 in
theorem ok_commonS {f : Addr} {fd : FuncData} (F : Fun K "_law_common" "_law_common" sLawCommon f fd) (T : Txt mg) : FnOk P w K mg base CX0 1 f fd ["cells"] spLawCommon := by
  refine F.ok scLawCommon (fun vs H Q E h => ?_) (fun cdv A outer s H vs Q E hr h => ?_)
  · obtain ⟨D, ys, cs, rfl, _⟩ := h
    rfl
  · obtain ⟨D, vs, cs, rfl, e2, placed, ne, okAll, few', k⟩ := h
    refine ⟨_, (pss_one (ps_ret (pe_callTy call_tuple_of rfl T.tuple (by decide +kernel) (pa_cons (pe_lc (own := [("mark", 1)]) rfl scLawCommon.nd (pi_tup (pe_ix ix_list (pv 0) pe_int (fun _ _ => rfl))) (blkOk_by (N := ["cells", "mark", "cell"]) (sc := defScope sLawCommon) (by decide +kernel)) (fun _ _ _ _ _ => (pg_name (i := 1) scLawCommon.nd rfl (by first | exact Or.inl rfl | exact Or.inr rfl))) (fun _ _ _ _ _ => pts_one (pt_val (pe_callB (show CallR _ (.builtin "all") (rAll K) from cr_all rfl) rfl T.all (by decide +kernel) (pa_cons (pe_lc (own := [("cell", 2)]) rfl scLawCommon.nd (show PI _ _ _ (iList K (tVar 0)) from pi_list (pv 0)) (show BlkOk ["cells", "mark", "cell"] (relS _ (defScope sLawCommon)) _ _ from blkOk_by (by decide +kernel)) (fun _ _ _ _ _ => (pg_name (i := 2) scLawCommon.nd rfl (by first | exact Or.inl rfl | exact Or.inr rfl))) (fun _ _ _ _ _ => pts_nil) (fun _ _ _ _ _ => (pe_cmpR (show OpR _ _ (rIn K false) from op_in_seq) (pv 1) (pv 2) (by with_unfolding_all rfl)))) pa_nil)))) (fun _ _ _ _ _ => (pv 1))) pa_nil)))), ?_⟩
    obtain ⟨v0, c0, vs', cs', ev, ec, m0⟩ : ∃ v0 c0 vs' cs', vs = v0 :: vs' ∧ cs = c0 :: cs' ∧ Xci.Mk H v0 c0 := by
      cases placed with
      | nil => exact absurd rfl ne
      | cons h t => exact ⟨_, _, _, _, rfl, rfl, h⟩
    obtain ⟨a0, rfl, h0⟩ := m0
    have vlen := Paired.length placed
    have c0ok := okAll c0 (by rw [ec]; exact List.mem_cons_self)
    have c0len := c0ok.len
    refine ⟨_, rfl, D, _, _, _, rfl, rfl, SqL.of e2, at_of (j := 0) rfl (by rw [ev] <;> rfl), a0, rfl, ⟨_, sqT h0⟩, fun D2 hD2 => ?_⟩
    refine lc_tup (K := K) (a := a0) (xs := c0.map V.int) (fun i H5 => Same H H5 ∧ H5 D2 = some (.lst (((c0.take i).filter fun m => cs.all fun c => decide (m ∈ c)).map V.int))) ⟨Same.new hD2, upd_same⟩ (fun i H5 _ ⟨e, _⟩ => sqT (e _ _ h0)) ?_ ?_
    · rintro i x H5 hi ⟨s5, e5⟩
      obtain ⟨m, hm, rfl⟩ := int_of hi
      refine ⟨rfl, _, rfl, D, rfl, ⟨_, SqL.of (s5 _ _ e2)⟩, fun D3 hD3 => ?_⟩
      refine lc_list (K := K) (a := D) (xs := vs) (fun k H6 => Same H5 H6 ∧ H6 D3 = some (.lst (((cs.take k).map fun c => decide (m ∈ c)).map V.bl))) ⟨Same.new hD3, upd_same⟩ (fun k H6 _ ⟨e, _⟩ => SqL.of (e _ _ (s5 _ _ e2))) ?_ ?_
      · rintro k' y H6 hk ⟨s6, e6⟩
        obtain ⟨c, hcs, q, rfl, hq⟩ := Paired.get placed hk
        have hq6 := s6 _ _ (s5 _ _ hq)
        refine ⟨rfl, _, rfl, _, rfl, q, _, rfl, .inr (sqT hq6), rfl, flat_ints c, ?_⟩
        refine ⟨_, e6, (by rw [List.length_map, List.length_map]; exact small1000 (Nat.le_trans (List.length_take_le _ _) (by have := (List.getElem?_eq_some_iff.mp hcs).1; omega))), fun b o h => by rw [upd_ne (ne_of_none h hD3)]; exact s6 b o h, ?_⟩
        rw [upd_same, List.take_succ, hcs, List.map_append, List.map_append]
        show some (L2.HO.lst (_ ++ [V.bl (inV (.int m) (c.map V.int))])) = some (L2.HO.lst (_ ++ [V.bl (decide (m ∈ c))]))
        rw [inV_int]
      · rintro H6 ⟨s6, e6⟩
        rw [vlen, List.take_length] at e6
        refine ⟨D3, _, rfl, SqL.of e6, _, rfl, ?_⟩
        rw [show ((cs.map fun c => decide (m ∈ c)).all id) = (cs.all fun c => decide (m ∈ c)) from List.all_map ..]
        have e56 := s6 _ _ e5
        have step : (c0.take (i + 1)).filter (fun m => cs.all fun c => decide (m ∈ c)) = (c0.take i).filter (fun m => cs.all fun c => decide (m ∈ c)) ++ (if (cs.all fun c => decide (m ∈ c)) = true then [m] else []) := by
          rw [List.take_succ, hm, List.filter_append]
          refine congrArg _ ?_
          show ([m] : List Int).filter _ = _
          rw [List.filter_cons, List.filter_nil]
        refine ite2 (fun yes => ?_) (fun no => ?_)
        · refine ⟨_, rfl, _, e56, (by rw [List.length_map]; exact small1000 (Nat.le_trans (List.length_filter_le _ _) (Nat.le_trans (List.length_take_le _ _) (by have := (List.getElem?_eq_some_iff.mp hm).1; omega)))), fun b o h => by rw [upd_ne (ne_of_none h hD2)]; exact s6 _ _ (s5 b o h), ?_⟩
          rw [upd_same, step, if_pos yes, List.map_append]
          rfl
        · refine ⟨s5.trans s6, ?_⟩
          rw [e56, step, if_neg no, List.append_nil]
    · rintro H5 ⟨s5, e5⟩
      rw [List.length_map, List.take_length] at e5
      refine ⟨D2, _, rfl, .inl ⟨SqL.of e5, fun l hl => k l _ _ upd_same (c0ok.sub List.filter_sublist) (fun m => ?_) (s5.trans (Same.new hl))⟩⟩
      rw [List.mem_filter, List.all_eq_true]
      constructor
      · rintro ⟨_, h2⟩ c hc
        exact of_decide_eq_true (h2 c hc)
      · intro h
        exact ⟨h c0 (by rw [ec]; exact List.mem_cons_self), fun c hc => decide_eq_true (h c hc)⟩
abbrev sLawCommons : Stmt := top 74
theorem scLawCommons : FnScope ["plot", "found", "form", "at"] ["plot"] (defScope sLawCommons) := ⟨rfl, rfl, rfl, by decide +kernel, rfl, by decide +kernel, by decide +kernel⟩
set_option maxHeartbeats 4000000 in
theorem ok_commonsS {f : Addr} {fd : FuncData} (F : Fun K "_law_commons" "_law_commons" sLawCommons f fd) (T : Txt mg) (HSp : Has P w K mg base "_law_spoken" ["plot"] 1 spPlotSpoken) (HCo : Has P w K mg base "_law_common" ["cells"] 1 spLawCommon) : FnOk P w K mg base CX0 2 f fd ["plot"] spPlotCommons := by
  refine F.ok scLawCommons (fun vs H Q E h => ?_) (fun cdv A outer s H vs Q E hr h => ?_)
  · obtain ⟨v, many, pc, pf, cy, cells, fs, rfl, _⟩ := h
    rfl
  · obtain ⟨v, many, pc, pf, cy, cells, fs, rfl, d, k⟩ := h
    obtain ⟨tp, rfl, htp⟩ := id d.tup
    refine ⟨_, (pss_cons (ps_set (i := 1) scLawCommons.nd rfl (by first | exact Or.inl rfl | exact Or.inr rfl) pe_dnewK)
      (pss_cons (ps_for PassesOwn.never rfl (pi_list (pe_callH HSp (hr.mono (by decide)) rfl (pa_cons (pv 0) pa_nil))) (pg_name (i := 2) scLawCommons.nd rfl (by first | exact Or.inl rfl | exact Or.inr rfl)) (pss_one (ps_dput (hu1 hr) (pv 1) (pv 2) (pe_callH HCo (hr.mono (by decide)) rfl (pa_cons (pe_lc (own := [("at", 3)]) rfl scLawCommons.nd (pi_range1 rfl T.range (pa_cons (pe_callB call_len rfl T.len PySem.boot_len (pa_cons (pe_ix ix_tup (pv 0) pe_int (fun _ _ => rfl)) pa_nil)) pa_nil)) (blkOk_by (N := ["plot", "found", "form", "at"]) (sc := defScope sLawCommons) (by decide +kernel)) (fun _ _ _ _ _ => (pg_name (i := 3) scLawCommons.nd rfl (by first | exact Or.inl rfl | exact Or.inr rfl))) (fun _ _ _ _ _ => pts_one (pt_cmpR op_eq (pe_ix (show IxR _ (rIxT K) from ix_tup) (pe_ix (show IxR _ (rIxT K) from ix_tup) (pv 0) pe_int (fun _ _ => rfl)) (pv 3) (fun _ _ => rfl)) (pv 2) (nomark _))) (fun _ _ _ _ _ => (pe_ix (show IxR _ (rIxT K) from ix_tup) (pe_ix (show IxR _ (rIxT K) from ix_tup) (pv 0) pe_int (fun _ _ => rfl)) (pv 3) (fun _ _ => rfl)))) pa_nil)) rfl)))
      (pss_one (ps_ret (pv 1))))), ?_⟩
    have lcy : cy.length = cells.length := Paired.length d.cm
    have lfs := d.forms.len
    have few := d.fok.len
    refine fun e he => ?_
    have s1 : Same H (upd H e (.dK [])) := Same.new he
    have ee : (upd H e (.dK [])) e = some (.dK []) := upd_same
    generalize upd H e (.dK []) = H1 at *
    refine ⟨_, rfl, _, many, pc, pf, cy, cells, fs, rfl, d.same s1, fun q zs H2 rise eq hq s2 => ?_⟩
    have e2 := s2 _ _ ee
    have s12 := s1.trans s2
    have lz : zs.length ≤ 24 := by
      have := rise.nd.length_le_of_subset (l₂ := fs.filterMap id) fun z hz => List.mem_filterMap.mpr ⟨some z, (rise.all z).mp hz, rfl⟩
      have := List.length_filterMap_le id fs
      omega
    refine ⟨q, rfl, ⟨_, SqL.of eq⟩, ?_⟩
    refine for_list (K := K) (a := q) (xs := zs.map V.str) (fun i σ H3 => (∀ b o, H2 b = some o → b ≠ e → H3 b = some o) ∧ (∃ g : Str → Addr, HeldAt H3 e (zs.take i) (commonL (rowsOf cells fs)) g) ∧ ∃ o2 o3 : Option V, σ = [some (.ref tp), some (.ref e), o2, o3])
      ⟨fun b o h _ => h, ⟨fun _ => e, e2, nofun⟩, _, _, rfl⟩ (fun i σ H3 _ ⟨f, _⟩ => SqL.of (f _ _ eq (ne_of eq e2 (by intro z; cases z)))) ?_ ?_
    · rintro i y σ H3 hi ⟨f3, ⟨g, hg⟩, o2, o3, rfl⟩
      rw [List.getElem?_map] at hi
      obtain ⟨z, ez, rfl⟩ := Option.map_eq_some_iff.mp hi
      have ilt := (List.getElem?_eq_some_iff.mp ez).1
      have zin : some z ∈ fs := (rise.all z).mp (List.mem_of_getElem? ez)
      have tf3 : TFr H H3 := fun b xs h => f3 _ _ (s12 _ _ h) (ne_of (s12 _ _ h) e2 (by intro z; cases z))
      have d3 := d.tfr tf3
      have htp3 := tf3 _ _ htp
      have pm := d3.cm
      have lenf : cells.length = fs.length := lfs.symm
      refine ⟨_, rfl, tp, _, _, _, rfl, rfl, sqT htp3, at_of (j := 1) rfl rfl, _, cy.length, rfl, .inr ⟨_, sqT d3.cp, rfl⟩, _, rfl, by omega, by omega, fun l hl0 => ?_⟩
      refine lc_range (lo := 0) (n := cy.length) (fun i H4 => ∃ ys, H4 l = some (.lst ys) ∧ Same H3 H4 ∧ Mks H4 ys (cellsOf (rowsOf (cells.take i) (fs.take i)) z)) ⟨[], upd_same, Same.new hl0, .nil⟩ ?_ ?_
      · rintro j H4 hj ⟨ys, e4, s4, mk⟩
        have ltc : j < cells.length := by omega
        obtain ⟨c, ec⟩ : ∃ c, cells[j]? = some c := ⟨_, List.getElem?_eq_getElem ltc⟩
        obtain ⟨fo, ef⟩ : ∃ fo, fs[j]? = some fo := ⟨_, List.getElem?_eq_getElem (by omega)⟩
        obtain ⟨y, hy, my⟩ := Paired.get' (pm.keep (TFr.same s4)) ec
        have gf : (fs.map formV)[j]? = some (formV fo) := by rw [List.getElem?_map, ef]; rfl
        have i0 : (0 + (j : Int)) = ((j : Nat) : Int) := by omega
        have rt := rows_take ec ef
        have ly : ys.length ≤ 63 := by
          rw [Paired.length mk]
          have h2 : (rowsOf (cells.take j) (fs.take j)).length ≤ ((cells.take j).zip (fs.take j)).length := List.length_filterMap_le _ _
          rw [List.length_zip, List.length_take, List.length_take] at h2
          exact Nat.le_trans (cellsOf_len _ _) (by omega)
        refine ⟨rfl, _, rfl, tp, _, _, _, rfl, rfl, sqT (s4 _ _ htp3), at_of (j := 2) rfl rfl, _, rfl, pf, _, _, _, rfl, rfl, sqT (s4 _ _ d3.fp), at_of (j := j) i0 gf, _, rfl, by cases fo <;> rfl, _, rfl, ?_⟩
        refine ite2 (fun q => ?_) (fun q => ?_)
        · have ef' : fo = some z := by
            have q := of_decide_eq_true q
            cases fo with
            | none => cases q
            | some x => rw [V.str.inj q]
          subst ef'
          refine ⟨_, rfl, tp, _, _, _, rfl, rfl, sqT (s4 _ _ htp3), at_of (j := 1) rfl rfl, _, rfl, pc, _, _, _, rfl, rfl, sqT (s4 _ _ d3.cp), at_of (j := j) i0 hy, ys, e4, small1000 (by omega), ys ++ [y], upd_same, fun b o h => by rw [upd_ne (ne_of_none h hl0)]; exact s4 _ _ h, ?_⟩
          have tf : TFr H4 (upd H4 l (.lst (ys ++ [y]))) := TFr.lst e4
          rw [rt, cellsOf_snoc, if_pos rfl]
          exact Paired.app (mk.keep tf) (Paired.one (Tup.keep tf my))
        · refine ⟨ys, e4, s4, ?_⟩
          rw [rt]
          cases fo with
          | none => rw [List.append_nil]; exact mk
          | some x =>
            have ne : ¬ x = z := fun w => q (decide_eq_true (by rw [w]; rfl))
            show Mks H4 ys (cellsOf (_ ++ [(c, x)]) z)
            rw [cellsOf_snoc, if_neg ne, List.append_nil]
            exact mk
      rintro H4 ⟨ys, hl, s4, mk⟩
      rw [List.take_of_length_le (by rw [lcy]; exact Nat.le_refl _), List.take_of_length_le (by rw [lcy, lenf]; exact Nat.le_refl _)] at mk
      have cne := cells_named lfs zin
      have cok : ∀ c ∈ cellsOf (rowsOf cells fs) z, MarksOk 6 c := fun c hc => d.ok6 c (cells_told hc)
      have clen : (cellsOf (rowsOf cells fs) z).length ≤ 64 := by
        have h2 : (rowsOf cells fs).length ≤ (cells.zip fs).length := List.length_filterMap_le _ _
        rw [List.length_zip] at h2
        exact Nat.le_trans (cellsOf_len _ _) (by omega)
      refine ⟨l, ys, _, rfl, hl, mk, cne, cok, clen, fun p ms H5 ep mok mem s5 => ?_⟩
      have msE := commonL_one (n := 6) cne cok mok mem
      subst msE
      have e5 := s5 _ _ (s4 _ _ hg.at_)
      have zn : z ∉ zs.take i := fun h => by
        obtain ⟨j, hj⟩ := List.mem_iff_getElem?.mp h
        have lj : j < i := by
          have := (List.getElem?_eq_some_iff.mp hj).1
          rw [List.length_take] at this; omega
        rw [List.getElem?_take_of_lt lj] at hj
        obtain ⟨h1, h2⟩ := List.getElem?_eq_some_iff.mp hj
        obtain ⟨h3, h4⟩ := List.getElem?_eq_some_iff.mp ez
        exact absurd (h2.trans h4.symm) (List.pairwise_iff_getElem.mp rise.nd j i h1 h3 lj)
      have tk : zs.take (i + 1) = zs.take i ++ [z] := by rw [List.take_add_one, ez]; rfl
      have i24 : (zs.take i).length ≤ 24 := Nat.le_trans (List.length_take_le' _ _) lz
      refine ⟨_, rfl, _, rfl, e, _, rfl, DPut.k (k := Sum.inr z) e5 (small1000 (by rw [dk_len]; omega)), ?_⟩
      have put : putK (dkOf (zs.take i) (refV g)) (Sum.inr z) (V.ref p) = dkOf (zs.take (i + 1)) (refV (setAS g z p)) := by rw [dk_new zn, setGS_ref, tk]
      refine ⟨fun b o hb h1 => by rw [upd_ne h1]; exact s5 _ _ (s4 _ _ (f3 b o hb h1)), ⟨setAS g z p, upd_same.trans (congrArg (fun l => some (HO.dK l)) put), fun y hy => ?_⟩, _, _, rfl⟩
      unfold setAS
      by_cases q : y = z
      · subst q
        rw [if_pos rfl, upd_ne (ne_of ep e5 (by intro z; cases z))]
        exact ep
      · have yF : y ∈ zs.take i := by
          rw [tk] at hy
          exact (List.mem_append.mp hy).elim id fun h => absurd (List.mem_singleton.mp h) q
        have := s5 _ _ (s4 _ _ (hg.each y yF))
        rw [if_neg q, upd_ne (ne_of this e5 (by intro z; cases z))]
        exact this
    · rintro σ H3 ⟨f3, ⟨g, hg⟩, o2, o3, rfl⟩
      rw [List.length_map, List.take_length] at hg
      exact ⟨_, rfl, k e zs g H3 rise hg he fun b o h => f3 _ _ (s2 _ _ (s1 _ _ h)) (ne_of_none h he)⟩
end
end Xci

namespace Xci
open PySem PySem.Spec PyProof.Rows L2
/-! a cell in a tuple of cells -/
def mkD (ms : List Int) : PyData := .tuple (ms.map .int)
theorem dpAll_ints {K : PySem.W.Frag} {H : Hp} : ∀ ms : List Int, DpAll K H (ms.map V.int) (ms.map PyData.int)
  | [] => .nil
  | m :: r => .cons (.int m) (dpAll_ints r)
theorem dp_mk {K : PySem.W.Frag} {H : Hp} {v : V} {ms : List Int} (h : Xci.Mk H v ms) : Dp K H v (mkD ms) := by
  obtain ⟨p, rfl, hp⟩ := h
  exact .tup (sqT hp) (dpAll_ints ms)
theorem dpAll_mks {K : PySem.W.Frag} {H : Hp} : ∀ {ys : List V} {cs : List (List Int)}, Mks H ys cs → DpAll K H ys (cs.map mkD)
  | _, _, .nil => .nil
  | _, _, .cons h t => .cons (dp_mk h) (dpAll_mks t)
theorem lay_mk (ms : List Int) : PyData.canLay0 (mkD ms) = true := by
  unfold mkD
  simp only [PyData.canLay0]
  exact (lay_ints ms).1
theorem lay_mks : ∀ cs : List (List Int), PyData.canLayAll0 (cs.map mkD) = true
  | [] => by simp [PyData.canLayAll0]
  | c :: r => by
    simp only [List.map_cons, PyData.canLayAll0, lay_mk c, lay_mks r, Bool.and_self]
theorem deep_mk (ms : List Int) : PyData.depth (mkD ms) = 1 := by
  unfold mkD
  simp only [PyData.depth, (lay_ints ms).2]
theorem any_mk (ms : List Int) : ∀ cs : List (List Int), ((cs.map mkD).any fun z => PyData.eqv z (mkD ms)) = decide (ms ∈ cs)
  | [] => rfl
  | c :: r => by
    have e : PyData.eqv (mkD c) (mkD ms) = decide (c = ms) := by
      unfold mkD
      simp only [PyData.eqv]
      exact eqvAll_ints c ms
    rw [List.map_cons, List.any_cons, any_mk ms r, e, Bool.eq_iff_iff]
    simp only [Bool.or_eq_true, decide_eq_true_eq, List.mem_cons]
    constructor
    · rintro (h | h)
      · exact .inl h.symm
      · exact .inr h
    · rintro (h | h)
      · exact .inl h.symm
      · exact .inr h
def rInMk (K : PySem.W.Frag) : R2 := fun x y H Q => ∃ (p : Addr) (ys : List V) (cs : List (List Int)) (ms : List Int), Xci.Mk H x ms ∧ y = .ref p ∧ SqT K H p ys ∧ Mks H ys cs ∧ Q (.bl (decide (ms ∈ cs))) H
theorem op_inMk {X : Cx} (hu : X.A.units + 64 < cLine) : OpR X (compareOp .In) (rInMk X.K) := by
  intro pins s σ H x y v u Q I rx ry h
  obtain ⟨p, ys, cs, ms, hm, rfl, hs, hcs, q⟩ := h
  obtain ⟨as, r1⟩ := Dp.reads I _ x v (dp_mk hm) rx
  obtain ⟨bs, r2⟩ := Dp.reads I (.tuple (cs.map mkD)) _ u (.tup hs (dpAll_mks hcs)) ry
  refine SeqAt.in_tuple_reads r2 r1 (lay_mks cs) (lay_mk ms) (by rw [deep_mk]; have : min (PyData.depthAll (cs.map mkD)) 1 ≤ 1 := Nat.min_le_right _ _; omega) ?_
  rw [any_mk]
  exact ⟨.bl _, H, I, rfl, q⟩
end Xci

namespace Xci
open PySem L2
section
variable {P : Program} {w : World} {K : PySem.W.Frag} {mg : Str → Option Value} {base : Heap}
abbrev sBits : Stmt := top 15
theorem scBits : FnScope ["marks", "mark"] ["marks"] (defScope sBits) := ⟨rfl, rfl, rfl, by decide +kernel, rfl, by decide +kernel, by decide +kernel⟩
theorem ok_bits {f : Addr} {fd : FuncData} (F : Fun K "bits" "bits" sBits f fd) (T : Txt mg) : FnOk P w K mg base CX0 1 f fd ["marks"] spBits := by
  refine F.ok scBits (fun vs H Q E h => ?_) (fun cdv A outer s H vs Q E hr h => ?_)
  · obtain ⟨v, ms, rfl, _⟩ := h
    rfl
  · obtain ⟨v, ms, rfl, ⟨p, rfl, hp⟩, ok, k⟩ := h
    refine ⟨_, (pss_one (ps_ret (pe_callB (cr_sum rfl) rfl T.sum (by decide +kernel) (pa_cons (pe_lc (own := [("mark", 1)]) rfl scBits.nd (pi_tup (pv 0)) (blkOk_by (N := ["marks", "mark"]) (sc := defScope sBits) (by decide +kernel)) (fun _ _ _ _ _ => (pg_name (i := 1) scBits.nd rfl (by first | exact Or.inl rfl | exact Or.inr rfl))) (fun _ _ _ _ _ => pts_nil) (fun _ _ _ _ _ => (pe_op op_shl pe_int (pv 1)))) pa_nil)))), ?_⟩
    have few := ok.len
    refine ⟨_, rfl, p, rfl, ⟨_, sqT hp⟩, fun D hD => ?_⟩
    refine lc_tup (K := K) (a := p) (xs := ms.map V.int) (fun i H4 => Same H H4 ∧ H4 D = some (.lst (((ms.take i).map fun m => (((2 ^ m.toNat : Nat)) : Int)).map V.int))) ⟨Same.new hD, upd_same⟩ (fun i H4 _ ⟨e, _⟩ => sqT (e _ _ hp)) ?_ ?_
    · rintro i x H4 hi ⟨sm, e4⟩
      obtain ⟨m, hm, rfl⟩ := int_of hi
      have mem := List.mem_of_getElem? hm
      have m0 := ok.lo m mem
      have m6 := ok.hi m mem
      refine ⟨rfl, _, rfl, _, _, rfl, rfl, ⟨m0, by omega, by decide⟩, _, e4, by rw [List.length_map, List.length_map]; exact small1000 (Nat.le_trans (List.length_take_le' _ _) (by omega)), fun b o h => by rw [upd_ne (ne_of_none h hD)]; exact sm b o h, ?_⟩
      rw [upd_same, List.take_add_one, hm, List.map_append, List.map_append]
      have e : (1 : Int) * 2 ^ m.toNat = ((2 ^ m.toNat : Nat) : Int) := by rw [Int.one_mul, Int.natCast_pow]; rfl
      show some (HO.lst (_ ++ [V.int ((1 : Int) * 2 ^ m.toNat)])) = _
      rw [e]; rfl
    · rintro H4 ⟨sm, e4⟩
      refine ⟨D, _, rfl, SqL.of e4, ?_⟩
      rw [List.length_map, List.take_length]
      have e : ∀ l : List Int, (l.map fun m => (((2 ^ m.toNat : Nat)) : Int)).sum = ((maskN l : Nat) : Int) := by
        intro l
        unfold maskN
        induction l with
        | nil => rfl
        | cons a r ih => rw [List.map_cons, List.map_cons, List.sum_cons, List.sum_cons, ih, Int.natCast_add]
      rw [e]
      exact k H4 sm
abbrev sCellBits : Stmt := top 42
theorem scCellBits : FnScope ["family", "cell"] ["family"] (defScope sCellBits) := ⟨rfl, rfl, rfl, by decide +kernel, rfl, by decide +kernel, by decide +kernel⟩
theorem ok_cellBits {f CF : Addr} {fd : FuncData} (F : Fun K "cell_bits" "cell_bits" sCellBits f fd) (FT : FamTxt K mg CF) (HBi : Has P w K mg base "bits" ["marks"] 1 spBits) : FnOk P w K mg base CX0 2 f fd ["family"] (spCellBits CF) := by
  refine F.ok scCellBits (fun vs H Q E h => ?_) (fun cdv A outer s H vs Q E hr h => ?_)
  · obtain ⟨fam, many, pc, cy, cells, rfl, _⟩ := h
    rfl
  · obtain ⟨fam, many, pc, cy, cells, rfl, ⟨df, hf⟩, hc, mc, ok, few, k⟩ := h
    refine ⟨_, (pss_one (ps_ret (pe_lc (own := [("cell", 1)]) rfl scCellBits.nd (pi_tup (pe_fld (pv 0) rfl)) (blkOk_by (N := ["family", "cell"]) (sc := defScope sCellBits) (by decide +kernel)) (fun _ _ _ _ _ => (pg_name (i := 1) scCellBits.nd rfl (by first | exact Or.inl rfl | exact Or.inr rfl))) (fun _ _ _ _ _ => pts_nil) (fun _ _ _ _ _ => (pe_callH HBi (hr.mono (by decide)) rfl (pa_cons (pv 1) pa_nil)))))), ?_⟩
    have lcy := Paired.length mc
    refine ⟨_, rfl, fam, CF, df, _, _, rfl, hf, FT.cl, FT.nC, famF_cells _ _, pc, rfl, ⟨_, sqT hc⟩, fun D hD => ?_⟩
    refine lc_tup (K := K) (a := pc) (xs := cy) (fun i H4 => Same H H4 ∧ H4 D = some (.lst (bitsV (cells.take i)))) ⟨Same.new hD, upd_same⟩ (fun i H4 _ ⟨e, _⟩ => sqT (e _ _ hc)) ?_ ?_
    · rintro i x H4 hi ⟨sm, e4⟩
      obtain ⟨c, ec, mcell⟩ := Paired.get (mc.keep (TFr.same sm)) hi
      refine ⟨rfl, _, rfl, x, c, rfl, mcell, ok c (List.mem_of_getElem? ec), fun H5 s5 => ⟨_, s5 _ _ e4, ?_, fun b o h => by rw [upd_ne (ne_of_none h hD)]; exact s5 _ _ (sm b o h), ?_⟩⟩
      · rw [bitsV_len]
        exact small1000 (Nat.le_trans (List.length_take_le' _ _) (by omega))
      · rw [upd_same, List.take_add_one, ec]
        unfold bitsV
        rw [List.map_append, List.map_append]; rfl
    · rintro H4 ⟨sm, e4⟩
      rw [lcy, List.take_length] at e4
      exact k D H4 e4 sm
theorem bit_in (x y : Nat) : (!(Builtin.bitAnd (x : Int) (Builtin.bitNot (y : Int)) != 0)) = decide (x &&& y = x) := by
  rw [Bool.eq_iff_iff, decide_eq_true_iff, ← less_zero]
  simp
theorem bit_out (x y : Nat) : (!decide (V.int (Builtin.bitAnd (x : Int) (Builtin.bitNot (y : Int))) = V.int 0)) = decide (x &&& y ≠ x) := by
  rw [Bool.eq_iff_iff, Bool.not_eq_true', decide_eq_false_iff_not, decide_eq_true_iff, V.int.injEq, less_zero]
abbrev sIsStruck : Stmt := top 45
theorem scIsStruck : FnScope ["left", "form", "other", "lot"] ["left", "form", "other", "lot"] (defScope sIsStruck) := ⟨rfl, rfl, rfl, by decide +kernel, rfl, by decide +kernel, by decide +kernel⟩
theorem ok_struck {f : Addr} {fd : FuncData} (F : Fun K "_is_struck" "_is_struck" sIsStruck f fd) : FnOk P w K mg base CX0 1 f fd ["left", "form", "other", "lot"] spStruck := by
  refine F.ok scIsStruck (fun vs H Q E h => ?_) (fun cdv A outer s H vs Q E hr h => ?_)
  · obtain ⟨d, F, x, z, o, c, rfl, _⟩ := h
    rfl
  · obtain ⟨d, F, x, z, o, c, rfl, hd, zF, oF, k⟩ := h
    refine ⟨_, (pss_one (ps_ret (pe_and (pe_notT (pe_op op_and (pe_dget (hu1 hr) (pv 0) (pv 1) (fun _ _ => rfl)) (pe_un un_inv (pv 3)))) (pe_one (pe_cmpR op_ne (pe_op op_and (pe_dget (hu1 hr) (pv 0) (pv 1) (fun _ _ => rfl)) (pe_un un_inv (pe_dget (hu1 hr) (pv 0) (pv 2) (fun _ _ => rfl)))) pe_int (nomark _)))))), ?_⟩
    have gz := dk_get hd zF
    have go := dk_get hd oF
    refine ⟨_, rfl, _, rfl, d, _, rfl, gz, _, rfl, _, rfl, _, _, rfl, rfl, _, rfl, _, rfl, ?_⟩
    rw [bit_in]
    refine ite2 (fun h => ?_) (fun h => ?_)
    · refine ⟨_, rfl, _, rfl, d, _, rfl, gz, _, rfl, _, rfl, d, _, rfl, go, _, rfl, _, _, rfl, rfl, rfl, ?_⟩
      rw [h, Bool.true_and] at k
      rw [bit_out]
      exact k
    · have e : decide (x z &&& maskN c = x z) = false := by
        cases q : decide (x z &&& maskN c = x z) with
        | true => exact absurd q h
        | false => rfl
      rw [e, Bool.false_and] at k
      exact k
end
end Xci

namespace Xci
open PySem L2

section
variable {P : Program} {w : World} {K : PySem.W.Frag} {mg : Str → Option Value} {base : Heap}
abbrev sLiesWithin : Stmt := top 14
theorem scLiesWithin : FnScope ["inner", "outer", "mark"] ["inner", "outer"] (defScope sLiesWithin) := ⟨rfl, rfl, rfl, by decide +kernel, rfl, by decide +kernel, by decide +kernel⟩

theorem ok_lies {f : Addr} {fd : FuncData} (F : Fun K "lies_within" "lies_within" sLiesWithin f fd) : FnOk P w K mg base CX0 1 f fd ["inner", "outer"] spLies := by
  refine F.ok scLiesWithin (fun vs H Q E h => ?_) (fun cdv A outer s H vs Q E hr h => ?_)
  · obtain ⟨u, v, ms, ns, rfl, _⟩ := h
    rfl
  · obtain ⟨u, v, ms, ns, rfl, ⟨p, rfl, hp⟩, ⟨q, rfl, hq⟩, k⟩ := h
    refine ⟨_, (pss_cons (ps_for PassesOwn.never rfl (pi_tup (pv 0)) (pg_name (i := 2) scLiesWithin.nd rfl (by first | exact Or.inl rfl | exact Or.inr rfl)) (pss_one (ps_if (pt_cmpR op_notIn_seq (pv 2) (pv 1) (by with_unfolding_all rfl)) (pss_one (ps_ret pe_bl)) pss_nil)))
      (pss_one (ps_ret pe_bl))), ?_⟩
    refine ⟨_, rfl, p, rfl, ⟨_, sqT hp⟩, for_tup (K := K) (a := p) (xs := ms.map V.int) (fun i σ H2 => H2 = H ∧ inside (ms.take i) ns = true ∧ ∃ v : Option V, σ = [some (.ref p), some (.ref q), v]) ⟨rfl, rfl, none, rfl⟩ (fun i σ H2 _ ⟨e, _⟩ => by rw [e]; exact sqT hp) ?_ ?_⟩
    · rintro i y σ H2 hi ⟨rfl, hin, v, rfl⟩
      obtain ⟨m, hm, rfl⟩ := int_of hi
      have mem := List.mem_of_getElem? hm
      refine ⟨_, rfl, _, rfl, q, _, rfl, .inr (sqT hq), rfl, flat_ints ns, _, rfl, ?_⟩
      rw [inV_int]
      refine ite2 (fun hn => ?_) (fun hn => ?_)
      · have hn' : ¬ m ∈ ns := by simpa using hn
        have e : inside ms ns = false := by
          cases hh : inside ms ns with
          | false => rfl
          | true => exact absurd (of_decide_eq_true (List.all_eq_true.mp hh m mem)) hn'
        rw [e] at k
        exact k
      · have hn' : m ∈ ns := by simpa using hn
        refine ⟨rfl, ?_, _, rfl⟩
        have et : ms.take (i + 1) = ms.take i ++ [m] := by rw [List.take_add_one, hm]; rfl
        unfold inside at hin ⊢
        rw [et, List.all_append, hin]
        simp [hn']
    · rintro σ H2 ⟨rfl, hin, v, rfl⟩
      rw [List.length_map, List.take_length] at hin
      rw [hin] at k
      exact k
abbrev sIsEntry : Stmt := top 30
theorem scIsEntry : FnScope ["thing"] ["thing"] (defScope sIsEntry) := ⟨rfl, rfl, rfl, by decide +kernel, rfl, by decide +kernel, by decide +kernel⟩

theorem ok_entry {f : Addr} {fd : FuncData} (F : Fun K "is_entry" "is_entry" sIsEntry f fd) (T : Txt mg) (c : Cst mg) (HC : Has P w K mg base "is_cell" ["many", "thing"] 3 spIsCell) (HF : Has P w K mg base "is_form" ["thing"] 1 spIsForm) : FnOk P w K mg base CX0 4 f fd ["thing"] spIsEntry := by
  refine F.ok scIsEntry (fun vs H Q E h => ?_) (fun cdv A outer s H vs Q E hr h => ?_)
  · obtain ⟨v, e, rfl, _⟩ := h
    rfl
  · obtain ⟨v, e, rfl, ⟨u, ⟨p, rfl, hp⟩, mu⟩, ok, k⟩ := h
    refine ⟨_, (pss_one (ps_ret (pe_and (pe_callB call_isi rfl T.isinstance (by decide +kernel) (pa_cons (pv 0) (pa_cons (pe_bltn rfl T.tuple (by decide +kernel) (v := V.ty "tuple") rfl) pa_nil))) (pe_and (pe_cmpR op_eq (pe_callB call_len rfl T.len PySem.boot_len (pa_cons (pv 0) pa_nil)) pe_int (nomark _)) (pe_and (pe_callH HC (hr.mono (by decide)) rfl (pa_cons (pe_gint rfl c.MARKS) (pa_cons (pe_ix ix_tup (pv 0) pe_int (fun _ _ => rfl)) pa_nil))) (pe_one (pe_callH HF (hr.mono (by decide)) rfl (pa_cons (pe_ix ix_tup (pv 0) pe_int (fun _ _ => rfl)) pa_nil)))))))), ?_⟩
    refine ⟨_, rfl, _, _, _, _, true, rfl, .ty _, .base (.tup hp), kit_ty (by decide +kernel), _, rfl, ?_⟩
    refine ⟨_, rfl, _, 2, rfl, .inr ⟨_, sqT hp, rfl⟩, rfl, _, rfl, ?_⟩
    refine ⟨_, rfl, p, _, _, _, rfl, rfl, sqT hp, at_of (j := 0) rfl rfl, _, u, e.1, rfl, mu, ok.ms, _, rfl, ?_⟩
    exact ⟨_, rfl, p, _, _, _, rfl, rfl, sqT hp, at_of (j := 1) rfl rfl, e.2, rfl, ok.w, k⟩
abbrev sAreEntries : Stmt := top 31
theorem scAreEntries : FnScope ["thing", "entry"] ["thing"] (defScope sAreEntries) := ⟨rfl, rfl, rfl, by decide +kernel, rfl, by decide +kernel, by decide +kernel⟩

theorem ok_are {f : Addr} {fd : FuncData} (F : Fun K "_are_entries" "_are_entries" sAreEntries f fd) (T : Txt mg) (c : Cst mg) (HE : Has P w K mg base "is_entry" ["thing"] 4 spIsEntry) : FnOk P w K mg base CX0 5 f fd ["thing"] spAreEntries := by
  refine F.ok scAreEntries (fun vs H Q E h => ?_) (fun cdv A outer s H vs Q E hr h => ?_)
  · obtain ⟨p, ys, es, rfl, _⟩ := h
    rfl
  · obtain ⟨p, ys, es, rfl, hp, ents, ok, hl, k⟩ := h
    refine ⟨_, (pss_cons (ps_if (PW.pt (pw_or (pt_not (pt_val (pe_callB call_isi rfl T.isinstance (by decide +kernel) (pa_cons (pv 0) (pa_cons (pe_bltn rfl T.tuple (by decide +kernel) (v := V.ty "tuple") rfl) pa_nil))))) (pw_or1 (pt_cmpR op_gt (pe_callB call_len rfl T.len PySem.boot_len (pa_cons (pv 0) pa_nil)) (pe_gint rfl c.MOST_ENTRIES) (nomark _))))) (pss_one (ps_ret pe_bl)) pss_nil)
      (pss_cons (ps_for PassesOwn.never rfl (pi_tup (pv 0)) (pg_name (i := 1) scAreEntries.nd rfl (by first | exact Or.inl rfl | exact Or.inr rfl)) (pss_one (ps_if (pt_not (pt_val (pe_callH HE (hr.mono (by decide)) rfl (pa_cons (pv 1) pa_nil)))) (pss_one (ps_ret pe_bl)) pss_nil)))
      (pss_one (ps_ret pe_bl)))), ?_⟩
    have hyl := Paired.length ents
    refine ⟨_, rfl, _, _, _, _, true, rfl, .ty _, .base (.tup hp), kit_ty (by decide +kernel), _, rfl, ?_⟩
    refine iteF ?_
    refine ⟨_, rfl, _, ys.length, rfl, .inr ⟨_, sqT hp, rfl⟩, _, _, rfl, rfl, _, rfl, ?_⟩
    refine ite2 (fun hf => ?_) (fun _ => ?_)
    · have hf' : (40 : Int) < ((ys.length : Nat) : Int) := of_decide_eq_true hf
      omega
    refine ⟨_, rfl, p, rfl, ⟨_, sqT hp⟩, for_tup (K := K) (a := p) (xs := ys) (fun i σ H2 => H2 = H ∧ ∃ v : Option V, σ = [some (.ref p), v]) ⟨rfl, none, rfl⟩ (fun i σ H2 _ ⟨e, _⟩ => by rw [e]; exact sqT hp) ?_ ?_⟩
    · rintro i y σ H2 hi ⟨rfl, v, rfl⟩
      obtain ⟨e, he, ev⟩ := Paired.get ents hi
      refine ⟨_, rfl, y, e, rfl, ev, ok e (List.mem_of_getElem? he), _, rfl, ?_⟩
      exact iteF ⟨rfl, _, rfl⟩
    · rintro σ H2 ⟨rfl, v, rfl⟩
      exact k
abbrev sAreWeights : Stmt := top 32
theorem scAreWeights : FnScope ["manner", "thing", "weight"] ["manner", "thing"] (defScope sAreWeights) := ⟨rfl, rfl, rfl, by decide +kernel, rfl, by decide +kernel, by decide +kernel⟩

theorem ok_weights {f : Addr} {fd : FuncData} (F : Fun K "_are_weights" "_are_weights" sAreWeights f fd) (T : Txt mg) (c : Cst mg) (HB : Has P w K mg base "is_between" ["low", "high", "thing"] 2 spBetween) : FnOk P w K mg base CX0 3 f fd ["manner", "thing"] spAreWeights := by
  refine F.ok scAreWeights (fun vs H Q E h => ?_) (fun cdv A outer s H vs Q E hr h => ?_)
  · obtain ⟨man, wt, rfl, _⟩ := h
    rfl
  · obtain ⟨man, wt, rfl, hw, k⟩ := h
    refine ⟨_, (pss_cons (ps_if (pt_cmpR op_ne (pv 0) pe_str (nomark _)) (pss_one (ps_ret (pe_cmpR op_isN (pv 1) pe_non (nomark _)))) pss_nil)
      (pss_cons (ps_if (PW.pt (pw_or (pt_not (pt_val (pe_callB call_isi rfl T.isinstance (by decide +kernel) (pa_cons (pv 1) (pa_cons (pe_bltn rfl T.tuple (by decide +kernel) (v := V.ty "tuple") rfl) pa_nil))))) (pw_or1 (pt_cmpR op_ne (pe_callB call_len rfl T.len PySem.boot_len (pa_cons (pv 1) pa_nil)) (pe_gint rfl c.MARKS) (nomark _))))) (pss_one (ps_ret pe_bl)) pss_nil)
      (pss_cons (ps_for PassesOwn.never rfl (pi_tup (pv 1)) (pg_name (i := 2) scAreWeights.nd rfl (by first | exact Or.inl rfl | exact Or.inr rfl)) (pss_one (ps_if (pt_not (pt_val (pe_callH HB (hr.mono (by decide)) rfl (pa_cons pe_int (pa_cons (pe_gint rfl c.MOST_WEIGHT) (pa_cons (pv 2) pa_nil)))))) (pss_one (ps_ret pe_bl)) pss_nil)))
      (pss_one (ps_ret pe_bl))))), ?_⟩
    refine ⟨_, rfl, rfl, _, rfl, ?_⟩
    rcases hw with ⟨hn, rfl⟩ | ⟨rfl, ws, ⟨p, rfl, hp⟩, hl, hb⟩
    · refine ite2 (fun _ => ?_) (fun hf => ?_)
      · exact ⟨_, rfl, rfl, k⟩
      · refine absurd ?_ hf
        have : decide (V.str man = V.str "weights") = false := decide_eq_false fun e => hn (V.str.inj e)
        rw [this]
        rfl
    · refine ite2 (fun hf => ?_) (fun _ => ?_)
      · have e : decide (V.str "weights" = V.str "weights") = true := decide_eq_true rfl
        have hf' : (!decide (V.str "weights" = V.str "weights")) = true := hf
        rw [e] at hf'
        cases hf'
      refine ⟨_, rfl, _, _, _, _, true, rfl, .ty _, .base (.tup hp), kit_ty (by decide +kernel), _, rfl, ?_⟩
      refine iteF ?_
      refine ⟨_, rfl, _, 6, rfl, .inr ⟨_, sqT hp, by rw [List.length_map, hl]⟩, rfl, _, rfl, ?_⟩
      refine iteF ?_
      refine ⟨_, rfl, p, rfl, ⟨_, sqT hp⟩, for_tup (K := K) (a := p) (xs := ws.map V.int) (fun i σ H2 => H2 = H ∧ ∃ v : Option V, σ = [some (.str "weights"), some (.ref p), v]) ⟨rfl, none, rfl⟩ (fun i σ H2 _ ⟨e, _⟩ => by rw [e]; exact sqT hp) ?_ ?_⟩
      · rintro i y σ H2 hi ⟨rfl, v, rfl⟩
        obtain ⟨m, hm, rfl⟩ := int_of hi
        obtain ⟨b1, b2⟩ := hb m (List.mem_of_getElem? hm)
        refine ⟨_, rfl, _, _, m, rfl, _, rfl, ?_⟩
        have e : decide ((0 : Int) ≤ m ∧ m ≤ 1000000) = true := decide_eq_true ⟨b1, b2⟩
        refine ite2 (fun hf => ?_) (fun _ => ⟨rfl, _, rfl⟩)
        have hf' : (!decide ((0 : Int) ≤ m ∧ m ≤ 1000000)) = true := hf
        rw [e] at hf'
        cases hf'
      · rintro σ H2 ⟨rfl, v, rfl⟩
        exact k
end
end Xci

namespace Xci
open PySem L2

section
variable {P : Program} {w : World} {K : PySem.W.Frag} {mg : Str → Option Value} {base : Heap}
abbrev sBookInit : Stmt := inClass (top 29) 0
theorem scBookInit : FnScope ["self", "manner", "entries", "weights"] ["self", "manner", "entries", "weights"] (defScope sBookInit) := ⟨rfl, rfl, rfl, by decide +kernel, rfl, by decide +kernel, by decide +kernel⟩

theorem man_in {man : Str} (h : Man man) : inV (.str man) [.str "row", .str "within", .str "weights", .str "most"] = true := by
  rcases h with rfl | rfl | rfl | rfl <;> decide +kernel
theorem ok_book {f C aM : Addr} {fd : FuncData} (F : Fun K "__init__" "Book.__init__" sBookInit f fd) (T : Txt mg) (B : BkTxt K mg C aM) (HE : Has P w K mg base "_are_entries" ["thing"] 5 spAreEntries) (HW : Has P w K mg base "_are_weights" ["manner", "thing"] 3 spAreWeights) :
    FnOk P w K mg base CX0 6 f fd ["self", "manner", "entries", "weights"] (spBook C) := by
  refine F.ok scBookInit (fun vs H Q E h => ?_) (fun cdv A outer s H vs Q E hr h => ?_)
  · obtain ⟨x, dx, man, p, wt, ys, es, rfl, _⟩ := h
    rfl
  · obtain ⟨x, dx, man, p, wt, ys, es, rfl, hx, hm, hw, hp, ents, eok, el, k⟩ := h
    refine ⟨_, (pss_cons (ps_if (PW.pt (pw_or (pt_not (pt_val (pe_callB call_isi rfl T.isinstance (by decide +kernel) (pa_cons (pv 1) (pa_cons (pe_bltn rfl T.str (by decide +kernel) (v := V.ty "str") rfl) pa_nil))))) (pw_or1 (pt_cmpR op_notIn_seq (pv 1) (pe_glob (v := .ref aM) rfl B.mgM rfl) (by with_unfolding_all rfl))))) (pss_one ps_never) pss_nil)
      (pss_cons (ps_if (pt_not (pt_val (pe_callH HE (hr.mono (by decide)) rfl (pa_cons (pv 2) pa_nil)))) (pss_one ps_never) pss_nil)
      (pss_cons (ps_if (pt_not (pt_val (pe_callH HW (hr.mono (by decide)) rfl (pa_cons (pv 1) (pa_cons (pv 3) pa_nil))))) (pss_one ps_never) pss_nil)
      (pss_cons (ps_fld (pv 0) (pv 1) rfl)
      (pss_cons (ps_fld (pv 0) (pv 2) rfl)
      (pss_one (ps_fld (pv 0) (pv 3) rfl))))))), ?_⟩
    refine ⟨_, rfl, _, _, _, _, true, rfl, .ty _, .base (.str _), kit_ty (by decide +kernel), _, rfl, ?_⟩
    refine iteF ?_
    refine ⟨_, rfl, aM, _, rfl, .inr (B.man H), rfl, rfl, _, rfl, ?_⟩
    rw [man_in hm]
    refine iteF ?_
    refine ⟨_, rfl, p, ys, es, rfl, hp, ents, eok, el, _, rfl, ?_⟩
    refine iteF ?_
    refine ⟨_, rfl, _, rfl, man, wt, rfl, hw, _, rfl, ?_⟩
    refine iteF ?_
    refine ⟨_, rfl, _, rfl, x, C, dx, [], rfl, hx, B.cl, B.nM, (by show 0 < 1000; decide), ?_⟩
    refine ⟨_, rfl, _, rfl, x, C, dx, _, rfl, upd_same, B.cl, B.nE, (by show 1 < 1000; decide), ?_⟩
    refine ⟨_, rfl, _, rfl, x, C, dx, _, rfl, upd_same, B.cl, B.nW, (by rw [put1, put2]; show 2 < 1000; decide), ?_⟩
    refine k _ ⟨dx, ?_⟩ fun b o e hb => ?_
    · rw [upd_same, put1, put2, put3]
      rfl
    · rw [upd_ne hb, upd_ne hb, upd_ne hb]
      exact e
abbrev sFitting : Stmt := top 33
theorem scFitting : FnScope ["book", "cell", "number", "entry"] ["book", "cell"] (defScope sFitting) := ⟨rfl, rfl, rfl, by decide +kernel, rfl, by decide +kernel, by decide +kernel⟩

theorem ok_fitting {f C aM : Addr} {fd : FuncData} (F : Fun K "fitting" "fitting" sFitting f fd) (T : Txt mg) (c : Cst mg) (B : BkTxt K mg C aM) (HC : Has P w K mg base "is_cell" ["many", "thing"] 3 spIsCell) (HL : Has P w K mg base "lies_within" ["inner", "outer"] 1 spLies) :
    FnOk P w K mg base CX0 4 f fd ["book", "cell"] (spFitting C) := by
  refine F.ok scFitting (fun vs H Q E h => ?_) (fun cdv A outer s H vs Q E hr h => ?_)
  · obtain ⟨b, p, man, wt, v, ys, es, ms, rfl, _⟩ := h
    rfl
  · obtain ⟨b, p, man, wt, v, ys, es, ms, rfl, ⟨dx, hb⟩, hp, ents, eok, el, mv, mok, k⟩ := h
    refine ⟨_, (pss_cons (ps_if (pt_not (pt_val (pe_callH HC (hr.mono (by decide)) rfl (pa_cons (pe_gint rfl c.MARKS) (pa_cons (pv 1) pa_nil))))) (pss_one ps_never) pss_nil)
      (pss_one (ps_ret (pe_callTy call_tuple_of rfl T.tuple (by decide +kernel) (pa_cons (pe_lc (own := [("number", 2), ("entry", 3)]) rfl scFitting.nd (pi_enumT rfl T.enumerate (pa_cons (pe_fld (pv 0) rfl) pa_nil)) (blkOk_by (N := ["book", "cell", "number", "entry"]) (sc := defScope sFitting) (by decide +kernel)) (fun _ _ _ _ _ => (show PG _ _ (gTup K 2 _) from pg_tup rfl (pgs_cons (pg_name (i := 2) scFitting.nd rfl (by first | exact Or.inl rfl | exact Or.inr rfl)) (pgs_cons (pg_name (i := 3) scFitting.nd rfl (by first | exact Or.inl rfl | exact Or.inr rfl)) pgs_nil)))) (fun _ _ _ _ _ => pts_one (pt_val (pe_callH HL (hr.mono (by decide)) rfl (pa_cons (pe_ix (show IxR _ (rIxT K) from ix_tup) (pv 3) pe_int (fun _ _ => rfl)) (pa_cons (pv 1) pa_nil))))) (fun _ _ _ _ _ => (pv 2))) pa_nil))))), ?_⟩
    refine ⟨_, rfl, _, v, ms, rfl, mv, mok, _, rfl, ?_⟩
    refine iteF ?_
    have hyl := Paired.length ents
    refine ⟨_, rfl, b, C, dx, _, _, rfl, hb, B.cl, B.nE, bf_entries _ _ _, p, ys, rfl, sqT hp, fun D hD => ?_⟩
    refine lc_it (walk_enumT (K := K) (a := p) (xs := ys)) (fun i H4 => Same H H4 ∧ H4 D = some (.lst ((nat2 ((List.range i).filter (fitP es ms))).map V.int))) ⟨Same.new hD, upd_same⟩ (fun i H4 _ ⟨e, _⟩ => sqT (e _ _ hp)) ?_ ?_
    · rintro i x H4 H5 hi ⟨sm, e4⟩ ⟨t, y, rfl, ht, rfl, hy⟩
      obtain ⟨e, he, u, ⟨r0, rfl, hr0⟩, mu⟩ := Paired.get ents hy
      have s5 : Same H4 (upd H4 t (.tup [.int (i : Nat), .ref r0])) := Same.new ht
      have et : (upd H4 t (.tup [.int (i : Nat), .ref r0])) t = some (.tup [.int (i : Nat), .ref r0]) := upd_same
      generalize upd H4 t (.tup [.int (i : Nat), .ref r0]) = H5 at *
      have s15 := sm.trans s5
      refine ⟨t, _, rfl, sqT et, rfl, _, _, rfl, _, _, rfl, rfl, rfl, ?_⟩
      refine ⟨_, rfl, r0, _, _, _, rfl, rfl, sqT (s15 _ _ hr0), at_of (j := 0) rfl rfl, _, rfl, u, v, e.1, ms, rfl, Tup.keep (TFr.same s15) mu, Tup.keep (TFr.same s15) mv, _, rfl, ?_⟩
      have e5 := s5 _ _ e4
      refine ite2 (fun hn => ?_) (fun hn => ?_)
      · refine ⟨_, rfl, _, e5, by rw [List.length_map]; exact small1000 (Nat.le_trans (fit_len es ms i) (by omega)), fun b o h => by rw [upd_ne (ne_of_none h hD)]; exact s15 b o h, ?_⟩
        rw [upd_same, fit_take, fitP_at he, if_pos hn, nat2_app, List.map_append]
        rfl
      · refine ⟨s15, ?_⟩
        rw [e5, fit_take, fitP_at he, if_neg hn, List.append_nil]
    · rintro H4 ⟨sm, e4⟩
      rw [hyl] at e4
      refine ⟨D, _, rfl, .inl ⟨SqL.of e4, fun l hl => ?_⟩⟩
      exact k l _ upd_same (sm.trans (Same.new hl))
end
end Xci

namespace Xci
open PySem L2
section
variable {P : Program} {w : World} {K : PySem.W.Frag} {mg : Str → Option Value} {base : Heap}
theorem okd_integer {f : Addr} {fd : FuncData} (F : Fun K "is_integer" "is_integer" sIsInteger f fd) (T : Txt mg) : FnOk P w K mg base CX0 1 f fd ["thing"] spIntD := by
  refine F.ok scIsInteger (fun vs H Q E h => ?_) (fun cdv A outer s H vs Q E hr h => ?_)
  · obtain ⟨a, v, d, rfl, _⟩ := h
    rfl
  · obtain ⟨a, v, d, rfl, hd, k⟩ := h
    refine ⟨_, (pss_one (ps_ret (pe_and (pe_callB call_isi rfl T.isinstance (by decide +kernel) (pa_cons (pv 0) (pa_cons (pe_bltn rfl T.int (by decide +kernel) (v := V.ty "int") rfl) pa_nil))) (pe_one (pe_not (pe_callB call_isi rfl T.isinstance (by decide +kernel) (pa_cons (pv 0) (pa_cons (pe_bltn rfl T.bool (by decide +kernel) (v := V.ty "bool") rfl) pa_nil)))))))), ?_⟩
    rw [← intD_isa] at k
    refine ⟨_, rfl, _, _, _, _, _, rfl, .ty _, dt_ty hd, kit_D d (.inl rfl), _, rfl, ?_⟩
    cases h1 : isaD "int" d with
    | false =>
      rw [h1] at k
      exact k
    | true =>
      rw [h1] at k
      refine ⟨_, rfl, _, _, _, _, _, rfl, .ty _, dt_ty hd, kit_D d (.inr (.inl rfl)), _, rfl, k⟩
theorem okd_between {f : Addr} {fd : FuncData} (F : Fun K "is_between" "is_between" sIsBetween f fd) (HI : Has P w K mg base "is_integer" ["thing"] 1 spIntD) : FnOk P w K mg base CX0 2 f fd ["low", "high", "thing"] spBtwD := by
  refine F.ok scIsBetween (fun vs H Q E h => ?_) (fun cdv A outer s H vs Q E hr h => ?_)
  · obtain ⟨a, lo, hi, v, d, rfl, _⟩ := h
    rfl
  · obtain ⟨a, lo, hi, v, d, rfl, hd, k⟩ := h
    refine ⟨_, (pss_one (ps_ret (pe_and (pe_callH HI (hr.mono (by decide)) rfl (pa_cons (pv 2) pa_nil)) (pe_one (pe_chain op_le op_le (pv 0) (pv 2) (pv 1)))))), ?_⟩
    refine ⟨_, rfl, a, v, d, rfl, hd, _, rfl, ?_⟩
    cases hd with
    | int x =>
      refine ⟨_, rfl, _, rfl, _, _, rfl, rfl, _, rfl, ?_⟩
      refine ite2 (fun h1 => ?_) (fun h1 => ?_)
      · have h1' : lo ≤ x := of_decide_eq_true h1
        refine ⟨_, rfl, _, _, rfl, rfl, ?_⟩
        have e : btwD lo hi (.int x) = decide (x ≤ hi) := by simp [btwD, h1']
        rw [e] at k
        exact k
      · have h1' : ¬ lo ≤ x := fun q => h1 (decide_eq_true q)
        have e : btwD lo hi (.int x) = false := by simp [btwD, h1']
        rw [e] at k
        exact k
    | _ => exact k
end
end Xci

namespace Xci
open PySem L2
/-! ### forms shrunk by strikes, told as one run -/
theorem shared_snoc {rows : List (List Int × Str)} {c : List Int} {z y : Str} {m : Int} : Shared0 (rows ++ [(c, z)]) y m ↔ Shared0 rows y m ∧ (z = y → m ∈ c) := by
  constructor
  · intro h
    exact ⟨fun r hr e => h r (List.mem_append_left _ hr) e, fun e => h (c, z) (List.mem_append_right _ (List.mem_singleton.mpr rfl)) e⟩
  · rintro ⟨h, g⟩ r hr e
    rcases List.mem_append.mp hr with q | q
    · exact h r q e
    · rw [List.mem_singleton.mp q] at e ⊢
      exact g e
theorem named_snoc {rows : List (List Int × Str)} {c : List Int} {z y : Str} : Named (rows ++ [(c, z)]) y ↔ Named rows y ∨ y = z := by
  constructor
  · rintro ⟨r, hr, e⟩
    rcases List.mem_append.mp hr with q | q
    · exact .inl ⟨r, q, e⟩
    · rw [List.mem_singleton.mp q] at e
      exact .inr e.symm
  · rintro (⟨r, hr, e⟩ | e)
    · exact ⟨r, List.mem_append_left _ hr, e⟩
    · exact ⟨(c, z), List.mem_append_right _ (List.mem_singleton.mpr rfl), e.symm⟩
theorem Names.snoc {rows : List (List Int × Str)} {F : List Str} {c : List Int} {z : Str} (N : Names rows F) : Names (rows ++ [(c, z)]) (withZ F z) :=
  ⟨with_nodup N.nd, fun y => by rw [with_mem, named_snoc, N.mem]⟩
def setX (x : Str → Nat) (z : Str) (n : Nat) (y : Str) : Nat := if y = z then n else x y
theorem setX_at (x : Str → Nat) (z : Str) (n : Nat) : setX x z n z = n := if_pos rfl
theorem setX_ne {x : Str → Nat} {z y : Str} {n : Nat} (h : y ≠ z) : setX x z n y = x y := if_neg h
theorem setG_mask (x : Str → Nat) (z : Str) (n : Nat) : setG (maskV x) z (.int (n : Nat)) = maskV (setX x z n) := funext fun y => by
  unfold setG maskV setX
  split <;> rfl
def nextN (F : List Str) (x : Str → Nat) (c : List Int) (z : Str) : Nat := if z ∈ F then x z &&& maskN c else maskN c
theorem AreShared.snoc {rows : List (List Int × Str)} {F : List Str} {x : Str → Nat} {c : List Int} {z : Str} {n : Int} (N : Names rows F) (S : AreShared rows F x) (ok : MarksOk n c) : AreShared (rows ++ [(c, z)]) (withZ F z) (setX x z (nextN F x c z)) := by
  intro y hy m
  rw [shared_snoc]
  have hc := has_mask ok.up ok.lo m
  by_cases e : y = z
  · subst e
    rw [setX_at]
    unfold nextN
    by_cases q : y ∈ F
    · rw [if_pos q, has_and, hc, S y q m]
      exact ⟨fun h => ⟨h.1, fun _ => h.2⟩, fun h => ⟨h.1, h.2 rfl⟩⟩
    · rw [if_neg q, hc]
      exact ⟨fun h => ⟨fun r hr er => absurd ((N.mem y).mpr ⟨r, hr, er⟩) q, fun _ => h⟩, fun h => h.2 rfl⟩
  · rw [setX_ne e]
    have q : y ∈ F := (with_mem.mp hy).elim id fun h => absurd h e
    rw [S y q m]
    exact ⟨fun h => ⟨h, fun h' => absurd h'.symm e⟩, fun h => h.1⟩
/-- the forms in the order told, the masks of their shared marks -/
def comStep (s : List Str × (Str → Nat)) (r : List Int × Str) : List Str × (Str → Nat) := (withZ s.1 r.2, setX s.2 r.2 (nextN s.1 s.2 r.1 r.2))
def comO (rows : List (List Int × Str)) : List Str × (Str → Nat) := rows.foldl comStep ([], fun _ => 0)
theorem com_snoc (rows : List (List Int × Str)) (c : List Int) (z : Str) : comO (rows ++ [(c, z)]) = (withZ (comO rows).1 z, setX (comO rows).2 z (nextN (comO rows).1 (comO rows).2 c z)) := by
  unfold comO
  rw [List.foldl_append]
  rfl
theorem com_ok {n : Int} : ∀ (k : Nat) {rows : List (List Int × Str)}, rows.length = k → (∀ r ∈ rows, MarksOk n r.1) → Names rows (comO rows).1 ∧ AreShared rows (comO rows).1 (comO rows).2
  | 0, rows, h, ok => by
    obtain rfl : rows = [] := List.eq_nil_of_length_eq_zero h
    exact ⟨⟨List.nodup_nil, fun z => ⟨nofun, fun ⟨r, hr, _⟩ => nomatch hr⟩⟩, nofun⟩
  | k + 1, rows, h, ok => by
    have ne : rows ≠ [] := fun e => by rw [e] at h; cases h
    obtain ⟨⟨c, z⟩, hq⟩ : ∃ r, r = rows.getLast ne := ⟨_, rfl⟩
    have e : rows = rows.dropLast ++ [(c, z)] := by rw [hq]; exact (List.dropLast_concat_getLast ne).symm
    have l : rows.dropLast.length = k := by rw [List.length_dropLast]; omega
    obtain ⟨N, S⟩ := com_ok k l fun r hr => ok r (List.dropLast_subset rows hr)
    have cok : MarksOk n c := ok (c, z) (by rw [hq]; exact List.getLast_mem ne)
    rw [e, com_snoc]
    exact ⟨N.snoc, S.snoc N cok⟩
/-- all masks together -/
def pot (F : List Str) (x : Str → Nat) : Nat := (F.map x).sum
theorem pot_same {F : List Str} {x y : Str → Nat} (h : ∀ z ∈ F, x z = y z) : pot F x = pot F y := by
  unfold pot
  rw [List.map_congr_left h]
theorem pot_set {x : Str → Nat} {z : Str} {n : Nat} (l : n < x z) : ∀ {F : List Str}, F.Nodup → z ∈ F → pot F (setX x z n) < pot F x
  | [], _, h => nomatch h
  | y :: r, nd, h => by
    obtain ⟨n1, n2⟩ := List.nodup_cons.mp nd
    show setX x z n y + pot r (setX x z n) < x y + pot r x
    by_cases e : y = z
    · subst e
      rw [setX_at, pot_same (x := setX x y n) (y := x) fun u hu => setX_ne fun e' => n1 (by rw [← e']; exact hu)]
      omega
    · rw [setX_ne e]
      have := pot_set l n2 ((List.mem_cons.mp h).elim (fun q => absurd q.symm e) id)
      omega
theorem pot_le {x : Str → Nat} : ∀ {F : List Str}, (∀ z ∈ F, x z < 64) → pot F x ≤ 64 * F.length
  | [], _ => Nat.le_refl _
  | y :: r, h => by
    show x y + pot r x ≤ 64 * (r.length + 1)
    have := pot_le (F := r) fun z hz => h z (List.mem_cons_of_mem _ hz)
    have := h y List.mem_cons_self
    omega
def struck (x : Str → Nat) (z o : Str) (c : List Int) : Prop := x z &&& maskN c = x z ∧ x z &&& x o ≠ x z
instance (x : Str → Nat) (z o : Str) (c : List Int) : Decidable (struck x z o c) := by unfold struck; infer_instance
theorem Under.hit {cells : List (List Int)} {fs : List (Option Str)} {F : List Str} {x : Str → Nat} {z o : Str} {c : List Int} {i : Nat} (U : Under (rowsOf cells fs) fun z => hasB (x z)) (N : Names (rowsOf cells fs) F) (ok : ∀ c ∈ cells, MarksOk 6 c) (zF : z ∈ F) (h1 : cells[i]? = some c) (h2 : fs[i]? = some (some o)) (s : struck x z o c) :
    Under (rowsOf cells fs) fun y => hasB (setX x z (x z &&& x o) y) := by
  have cok := ok c (List.mem_of_getElem? h1)
  refine U.strike ((N.mem z).mp zF) (r := (c, o)) (rows_mem.mpr ⟨i, h1, h2⟩) (fun m hm => (has_mask cok.up cok.lo m).mp (and_sub.mp s.1 m hm)) (fun m => ?_) fun y hy m => ?_
  · show hasB (setX x z (x z &&& x o) z) m ↔ _
    rw [setX_at, has_and]
  · show hasB (setX x z (x z &&& x o) y) m ↔ _
    rw [setX_ne hy]
theorem AreShared.small {cells : List (List Int)} {fs : List (Option Str)} {F : List Str} {x : Str → Nat} (N : Names (rowsOf cells fs) F) (S : AreShared (rowsOf cells fs) F x) (ok : ∀ c ∈ cells, MarksOk 6 c) : ∀ z ∈ F, x z < 64 := by
  intro z hz
  refine Nat.lt_pow_two_of_testBit (n := 6) _ fun i hi => ?_
  cases q : (x z).testBit i with
  | false => rfl
  | true =>
    have := (S z hz (i : Int)).mp ⟨by omega, by rw [Int.toNat_natCast]; exact q⟩
    obtain ⟨r, hr, e⟩ := (N.mem z).mp hz
    obtain ⟨j, h1, _⟩ := rows_mem.mp hr
    have := (ok r.1 (List.mem_of_getElem? h1)).hi _ (this r hr e)
    omega
/-- a strike: whose mark goes, by whom, at which cell -/
abbrev Stk := Str × Str × Nat
/-- the masks, the strikes done -/
abbrev StS := (Str → Nat) × List Stk
def stepZ (o : Str) (c : List Int) (i : Nat) (s : StS) (z : Str) : StS := if struck s.1 z o c then (setX s.1 z (s.1 z &&& s.1 o), s.2 ++ [(z, o, i)]) else s
def cellRun (F : List Str) (o : Str) (c : List Int) (i : Nat) (s : StS) : StS := F.foldl (stepZ o c i) s
def rowRun (F : List Str) (cells : List (List Int)) (fs : List (Option Str)) (s : StS) (i : Nat) : StS :=
  match cells[i]?, fs[i]? with
  | some c, some (some o) => cellRun F o c i s
  | _, _ => s
def rowsTo (F : List Str) (cells : List (List Int)) (fs : List (Option Str)) (n : Nat) (s : StS) : StS := (List.range n).foldl (rowRun F cells fs) s
def round (F : List Str) (cells : List (List Int)) (fs : List (Option Str)) (s : StS) : StS := rowsTo F cells fs fs.length s
def rounds (F : List Str) (cells : List (List Int)) (fs : List (Option Str)) : Nat → StS → StS
  | 0, s => s
  | n + 1, s => round F cells fs (rounds F cells fs n s)
section
variable {F : List Str} {cells : List (List Int)} {fs : List (Option Str)}
theorem cellRun_next {o : Str} {c : List Int} {i k : Nat} {s : StS} {z : Str} (h : F[k]? = some z) : cellRun (F.take (k + 1)) o c i s = stepZ o c i (cellRun (F.take k) o c i s) z := by
  unfold cellRun
  rw [List.take_add_one, h, List.foldl_append]
  rfl
theorem rowsTo_next (n : Nat) (s : StS) : rowsTo F cells fs (n + 1) s = rowRun F cells fs (rowsTo F cells fs n s) n := by
  unfold rowsTo
  rw [List.range_succ, List.foldl_append]
  rfl
theorem rowRun_no {s : StS} {i : Nat} (h : fs[i]? = some none) : rowRun F cells fs s i = s := by
  unfold rowRun
  rw [h]
  split
  · rename_i e; cases e
  · rfl
theorem rowRun_yes {s : StS} {i : Nat} {c : List Int} {o : Str} (hc : cells[i]? = some c) (h : fs[i]? = some (some o)) : rowRun F cells fs s i = cellRun F o c i s := by
  unfold rowRun
  rw [h, hc]
/-- strikes are only added; where none is, all stays -/
def More (s t : StS) : Prop := s.2.length ≤ t.2.length ∧ (t.2.length = s.2.length → t = s)
theorem More.refl (s : StS) : More s s := ⟨Nat.le_refl _, fun _ => rfl⟩
theorem More.trans {a b c : StS} (h : More a b) (g : More b c) : More a c := ⟨Nat.le_trans h.1 g.1, fun e => by
  have e1 : c.2.length = b.2.length := Nat.le_antisymm (by rw [e]; exact h.1) g.1
  have e2 := g.2 e1
  subst e2
  exact h.2 e⟩
theorem more_step (o : Str) (c : List Int) (i : Nat) (s : StS) (z : Str) : More s (stepZ o c i s z) := by
  unfold stepZ
  split
  · refine ⟨by show s.2.length ≤ (s.2 ++ [(z, o, i)]).length; rw [List.length_append]; exact Nat.le_add_right _ _, fun e => ?_⟩
    have e' : (s.2 ++ [(z, o, i)]).length = s.2.length := e
    rw [List.length_append, List.length_singleton] at e'
    omega
  · exact More.refl s
theorem more_fold {α : Type} {f : StS → α → StS} (h : ∀ s a, More s (f s a)) : ∀ (l : List α) (s : StS), More s (l.foldl f s)
  | [], s => More.refl s
  | a :: r, s => (h s a).trans (more_fold h r (f s a))
theorem more_cell (F : List Str) (o : Str) (c : List Int) (i : Nat) (s : StS) : More s (cellRun F o c i s) := more_fold (more_step o c i) F s
theorem more_row (s : StS) (i : Nat) : More s (rowRun F cells fs s i) := by
  unfold rowRun
  split
  · exact more_cell _ _ _ _ _
  · exact More.refl s
theorem more_rows (n : Nat) (s : StS) : More s (rowsTo F cells fs n s) := more_fold more_row _ s
theorem more_to {n m : Nat} (h : n ≤ m) (s : StS) : More (rowsTo F cells fs n s) (rowsTo F cells fs m s) := by
  induction h with
  | refl => exact More.refl _
  | step _ ih => rw [rowsTo_next]; exact ih.trans (more_row _ _)
/-- between equal ones all is equal -/
theorem More.mid {a b : StS} (h : More a b) (g : More b a) : b = a := h.2 (Nat.le_antisymm g.1 h.1)
theorem still_rows {s : StS} (h : round F cells fs s = s) {n : Nat} (hn : n ≤ fs.length) : rowsTo F cells fs n s = s :=
  (more_rows n s).mid (by have := more_to (F := F) (cells := cells) (fs := fs) hn s; rw [show rowsTo F cells fs fs.length s = s from h] at this; exact this)
theorem still_cell : ∀ {F : List Str} {o : Str} {c : List Int} {i : Nat} {s : StS}, cellRun F o c i s = s → ∀ z ∈ F, ¬ struck s.1 z o c
  | [], _, _, _, _, _, z, h => nomatch h
  | y :: r, o, c, i, s, e, z, hz => by
    have e1 : stepZ o c i s y = s := (more_step o c i s y).mid (by have := more_cell r o c i (stepZ o c i s y); rw [show cellRun r o c i (stepZ o c i s y) = s from e] at this; exact this)
    rcases List.mem_cons.mp hz with rfl | hz
    · intro q
      unfold stepZ at e1
      rw [if_pos q] at e1
      have := congrArg (fun t : StS => t.2.length) e1
      simp at this
    · have e2 : cellRun r o c i s = s := by rw [show cellRun (y :: r) o c i s = cellRun r o c i (stepZ o c i s y) from rfl, e1] at e; exact e
      exact still_cell e2 z hz
/-- nothing more to strike -/
theorem round_quiet {s : StS} (h : round F cells fs s = s) {i : Nat} {c : List Int} {o : Str} (h1 : cells[i]? = some c) (h2 : fs[i]? = some (some o)) : ∀ z ∈ F, ¬ struck s.1 z o c := by
  have li := (List.getElem?_eq_some_iff.mp h2).1
  have e1 := still_rows h (Nat.le_of_lt li)
  have e2 := still_rows h (show i + 1 ≤ fs.length from li)
  rw [rowsTo_next, e1, rowRun_yes h1 h2] at e2
  exact still_cell e2
/-- strikes one after another -/
inductive Chain (F : List Str) (cells : List (List Int)) (fs : List (Option Str)) (x0 : Str → Nat) : List Stk → (Str → Nat) → Prop
  | nil : Chain F cells fs x0 [] x0
  | snoc {ts : List Stk} {x : Str → Nat} {z o : Str} {i : Nat} {c : List Int} : Chain F cells fs x0 ts x → z ∈ F → o ∈ F → cells[i]? = some c → fs[i]? = some (some o) → struck x z o c → Chain F cells fs x0 (ts ++ [(z, o, i)]) (setX x z (x z &&& x o))
theorem Chain.step {x0 : Str → Nat} {s : StS} (C : Chain F cells fs x0 s.2 s.1) {z o : Str} {i : Nat} {c : List Int} (zF : z ∈ F) (oF : o ∈ F) (h1 : cells[i]? = some c) (h2 : fs[i]? = some (some o)) : Chain F cells fs x0 (stepZ o c i s z).2 (stepZ o c i s z).1 := by
  unfold stepZ
  split
  · rename_i q
    exact .snoc C zF oF h1 h2 q
  · exact C
theorem Chain.cell {x0 : Str → Nat} {o : Str} {i : Nat} {c : List Int} (oF : o ∈ F) (h1 : cells[i]? = some c) (h2 : fs[i]? = some (some o)) : ∀ {G : List Str} {s : StS}, (∀ z ∈ G, z ∈ F) → Chain F cells fs x0 s.2 s.1 → Chain F cells fs x0 (cellRun G o c i s).2 (cellRun G o c i s).1
  | [], _, _, C => C
  | z :: r, s, h, C => Chain.cell oF h1 h2 (G := r) (s := stepZ o c i s z) (fun y hy => h y (List.mem_cons_of_mem _ hy)) (C.step (h z List.mem_cons_self) oF h1 h2)
theorem Chain.rows {x0 : Str → Nat} (N : Names (rowsOf cells fs) F) {s : StS} (C : Chain F cells fs x0 s.2 s.1) : ∀ n, Chain F cells fs x0 (rowsTo F cells fs n s).2 (rowsTo F cells fs n s).1
  | 0 => C
  | n + 1 => by
    have ih := Chain.rows N C n
    rw [rowsTo_next]
    generalize rowsTo F cells fs n s = t at *
    unfold rowRun
    split
    · rename_i c o hc ho
      exact Chain.cell ((N.mem o).mpr ⟨(c, o), rows_mem.mpr ⟨n, hc, ho⟩, rfl⟩) hc ho (fun _ h => h) ih
    · exact ih
theorem Chain.rounds {x0 : Str → Nat} (N : Names (rowsOf cells fs) F) : ∀ n, Chain F cells fs x0 (rounds F cells fs n (x0, [])).2 (rounds F cells fs n (x0, [])).1
  | 0 => .nil
  | n + 1 => Chain.rows N (Chain.rounds N n) _
theorem Chain.pot {x0 x : Str → Nat} {ts : List Stk} (nd : F.Nodup) (C : Chain F cells fs x0 ts x) : pot F x + ts.length ≤ pot F x0 := by
  induction C with
  | nil => exact Nat.le_refl _
  | @snoc ts x z o i c C zF oF h1 h2 st ih =>
    have less : x z &&& x o < x z := by
      have := @Nat.and_le_left (x z) (x o)
      have := st.2
      omega
    have := pot_set less nd zF
    rw [List.length_append, List.length_singleton]
    omega
theorem Chain.under {x0 x : Str → Nat} {ts : List Stk} (N : Names (rowsOf cells fs) F) (ok : ∀ c ∈ cells, MarksOk 6 c) (U : Under (rowsOf cells fs) fun z => hasB (x0 z)) (C : Chain F cells fs x0 ts x) : Under (rowsOf cells fs) fun z => hasB (x z) := by
  induction C with
  | nil => exact U
  | snoc C zF oF h1 h2 st ih => exact ih.hit N ok zF h1 h2 st
theorem potLe_step (nd : F.Nodup) {o : Str} {c : List Int} {i : Nat} {s : StS} {z : Str} (zF : z ∈ F) : Xci.pot F (stepZ o c i s z).1 + (stepZ o c i s z).2.length ≤ Xci.pot F s.1 + s.2.length := by
  unfold stepZ
  split
  · rename_i st
    have less : s.1 z &&& s.1 o < s.1 z := by
      have := @Nat.and_le_left (s.1 z) (s.1 o)
      have := st.2
      omega
    have := pot_set less nd zF
    show Xci.pot F (setX s.1 z (s.1 z &&& s.1 o)) + (s.2 ++ [(z, o, i)]).length ≤ _
    rw [List.length_append, List.length_singleton]
    omega
  · exact Nat.le_refl _
theorem potLe_cell (nd : F.Nodup) {o : Str} {c : List Int} {i : Nat} : ∀ {G : List Str} {s : StS}, (∀ z ∈ G, z ∈ F) → Xci.pot F (cellRun G o c i s).1 + (cellRun G o c i s).2.length ≤ Xci.pot F s.1 + s.2.length
  | [], _, _ => Nat.le_refl _
  | z :: r, s, h => Nat.le_trans (potLe_cell nd (G := r) (s := stepZ o c i s z) fun y hy => h y (List.mem_cons_of_mem _ hy)) (potLe_step nd (h z List.mem_cons_self))
theorem potLe_rows (nd : F.Nodup) (s : StS) : ∀ n, Xci.pot F (rowsTo F cells fs n s).1 + (rowsTo F cells fs n s).2.length ≤ Xci.pot F s.1 + s.2.length
  | 0 => Nat.le_refl _
  | n + 1 => by
    rw [rowsTo_next]
    refine Nat.le_trans ?_ (potLe_rows nd s n)
    unfold rowRun
    split
    · exact potLe_cell nd fun _ h => h
    · exact Nat.le_refl _
theorem pot_round (nd : F.Nodup) (s : StS) : (round F cells fs s).2.length = s.2.length ∨ Xci.pot F (round F cells fs s).1 < Xci.pot F s.1 := by
  have := potLe_rows (cells := cells) (fs := fs) nd s fs.length
  have m : More s (rowsTo F cells fs fs.length s) := more_rows _ _
  have := m.1
  show (rowsTo F cells fs fs.length s).2.length = _ ∨ Xci.pot F (rowsTo F cells fs fs.length s).1 < _
  omega
/-- the end of the rounds is one -/
theorem rounds_one {s0 : StS} {n m : Nat} (h : round F cells fs (rounds F cells fs n s0) = rounds F cells fs n s0) (g : round F cells fs (rounds F cells fs m s0) = rounds F cells fs m s0) : rounds F cells fs n s0 = rounds F cells fs m s0 := by
  have stay : ∀ {n : Nat}, round F cells fs (rounds F cells fs n s0) = rounds F cells fs n s0 → ∀ k, rounds F cells fs (n + k) s0 = rounds F cells fs n s0 := fun {n} h k => by
    induction k with
    | zero => rfl
    | succ k ih => show round F cells fs (rounds F cells fs (n + k) s0) = _; rw [ih, h]
  rcases Nat.le_total n m with l | l
  · obtain ⟨k, rfl⟩ := Nat.exists_eq_add_of_le l
    exact (stay h k).symm
  · obtain ⟨k, rfl⟩ := Nat.exists_eq_add_of_le l
    exact stay g k
end
/-- the end of all strikes from the shared marks -/
def RunEnd (cells : List (List Int)) (fs : List (Option Str)) (F : List Str) (s : StS) : Prop := F = (comO (rowsOf cells fs)).1 ∧ ∃ n, s = rounds F cells fs n ((comO (rowsOf cells fs)).2, []) ∧ round F cells fs s = s
theorem RunEnd.one {cells : List (List Int)} {fs : List (Option Str)} {F F' : List Str} {s s' : StS} (h : RunEnd cells fs F s) (g : RunEnd cells fs F' s') : F = F' ∧ s = s' := by
  obtain ⟨rfl, n, e, q⟩ := h
  obtain ⟨rfl, m, e', q'⟩ := g
  refine ⟨rfl, ?_⟩
  rw [e] at q
  rw [e'] at q'
  rw [e, e']
  exact rounds_one q q'
/-- strikes as the heap holds them -/
abbrev Stks (H : Hp) (ys : List V) (ts : List Stk) : Prop := Paired (fun v (t : Stk) => Tup H v [.str t.1, .str t.2.1, .int (t.2.2 : Nat)]) ys ts
theorem Stks.keep {H H' : Hp} {ys : List V} {ts : List Stk} (f : TFr H H') (t : Stks H ys ts) : Stks H' ys ts := Paired.mapP t fun _ _ h => Tup.keep f h
def spCommonO : Sp := fun vs H Q _ => ∃ (q p : Addr) (cells : List (List Int)) (fs : List (Option Str)), vs = [.ref q, .ref p] ∧ MskAt false H q p cells fs ∧
  ∀ (d : Addr) (H' : Hp), H' d = some (.dK (dkOf (comO (rowsOf cells fs)).1 (maskV (comO (rowsOf cells fs)).2))) → H d = none → Same H H' → Q (.ref d) H'
def spShrinkO : Sp := fun vs H Q _ => ∃ (q p : Addr) (cells : List (List Int)) (fs : List (Option Str)), vs = [.ref q, .ref p] ∧ MskAt false H q p cells fs ∧
  ∀ (t d l : Addr) (F : List Str) (s : StS) (ys : List V) (H' : Hp), H' t = some (.tup [.ref d, .ref l]) → H' d = some (.dK (dkOf F (maskV s.1))) → H' l = some (.lst ys) → Stks H' ys s.2 → RunEnd cells fs F s → H d = none → H l = none → Same H H' → Q (.ref t) H'
end Xci

namespace Xci
open PySem L2
/-- the marks of a mask -/
def marksN (n : Nat) : List Int := ((List.range 6).filter fun i => n.testBit i).map fun i : Nat => (i : Int)
theorem marksN_mem {n : Nat} (h : n < 64) (m : Int) : m ∈ marksN n ↔ hasB n m := by
  unfold marksN hasB
  rw [List.mem_map]
  constructor
  · rintro ⟨i, hi, rfl⟩
    rw [List.mem_filter] at hi
    exact ⟨Int.natCast_nonneg _, by rw [Int.toNat_natCast]; exact hi.2⟩
  · rintro ⟨h0, hb⟩
    refine ⟨m.toNat, List.mem_filter.mpr ⟨List.mem_range.mpr ?_, hb⟩, Int.toNat_of_nonneg h0⟩
    rcases Nat.lt_or_ge m.toNat 6 with q | q
    · exact q
    · have : n < 2 ^ m.toNat := Nat.lt_of_lt_of_le h (by show 2 ^ 6 ≤ _; exact Nat.pow_le_pow_right (by decide) q)
      rw [Nat.testBit_lt_two_pow this] at hb
      cases hb
theorem marksN_ok (n : Nat) : MarksOk 6 (marksN n) := by
  unfold marksN
  refine ⟨?_, fun m hm => ?_, fun m hm => ?_⟩
  · rw [List.pairwise_map]
    exact (List.pairwise_lt_range.sublist List.filter_sublist).imp fun h => by omega
  · obtain ⟨i, _, rfl⟩ := List.mem_map.mp hm
    exact Int.natCast_nonneg _
  · obtain ⟨i, hi, rfl⟩ := List.mem_map.mp hm
    have := List.mem_range.mp (List.mem_filter.mp hi).1
    omega
theorem marksN_short {n k : Nat} (hk : k ≤ 6) (h : n < 2 ^ k) : marksN n = ((List.range k).filter fun i => n.testBit i).map fun i : Nat => (i : Int) := by
  unfold marksN
  obtain ⟨r, hr⟩ := Nat.exists_eq_add_of_le hk
  rw [hr, List.range_add, List.filter_append]
  have e : ((List.range r).map (k + ·)).filter (fun i => n.testBit i) = [] := by
    rw [List.filter_eq_nil_iff]
    intro i hi
    obtain ⟨j, _, rfl⟩ := List.mem_map.mp hi
    rw [Nat.testBit_lt_two_pow (Nat.lt_of_lt_of_le h (Nat.pow_le_pow_right (by decide) (Nat.le_add_right _ _)))]
    exact Bool.false_ne_true
  rw [e, List.append_nil]
section
variable {cells : List (List Int)} {fs : List (Option Str)} {F : List Str} {s : StS}
theorem com_names (ok : ∀ c ∈ cells, MarksOk 6 c) : Names (rowsOf cells fs) (comO (rowsOf cells fs)).1 ∧ AreShared (rowsOf cells fs) (comO (rowsOf cells fs)).1 (comO (rowsOf cells fs)).2 := com_ok (n := 6) _ (rows := rowsOf cells fs) rfl fun r hr => by
  obtain ⟨j, h1, _⟩ := rows_mem.mp hr
  exact ok _ (List.mem_of_getElem? h1)
theorem RunEnd.names (h : RunEnd cells fs F s) (ok : ∀ c ∈ cells, MarksOk 6 c) : Names (rowsOf cells fs) F := by rw [h.1]; exact (com_names ok).1
theorem RunEnd.nodup (h : RunEnd cells fs F s) (ok : ∀ c ∈ cells, MarksOk 6 c) : F.Nodup := (h.names ok).nd
theorem RunEnd.len (h : RunEnd cells fs F s) (ok : ∀ c ∈ cells, MarksOk 6 c) : F.length ≤ cells.length := (h.names ok).len
theorem RunEnd.chain (h : RunEnd cells fs F s) (ok : ∀ c ∈ cells, MarksOk 6 c) : Chain F cells fs (comO (rowsOf cells fs)).2 s.2 s.1 := by
  have N := h.names ok
  obtain ⟨_, n, e, _⟩ := h
  subst F
  rw [e]
  exact Chain.rounds N n
theorem chain_less {x0 x : Str → Nat} {ts : List Stk} (C : Chain F cells fs x0 ts x) : ∀ z, x z ≤ x0 z := by
  induction C with
  | nil => exact fun z => Nat.le_refl _
  | @snoc ts x z o i c C zF oF h1 h2 st ih =>
    intro y
    by_cases e : y = z
    · subst e
      rw [setX_at]
      exact Nat.le_trans Nat.and_le_left (ih y)
    · rw [setX_ne e]; exact ih y
theorem RunEnd.small (h : RunEnd cells fs F s) (ok : ∀ c ∈ cells, MarksOk 6 c) : ∀ z ∈ F, s.1 z < 64 := fun z hz => by
  have := chain_less (h.chain ok) z
  have N := com_names (cells := cells) (fs := fs) ok
  have := AreShared.small N.1 N.2 ok z (by rw [← h.1]; exact hz)
  omega
end
def spMarksOf : Sp := fun vs H Q _ => ∃ n : Nat, vs = [.int (n : Nat)] ∧ n < 64 ∧ ∀ (p : Addr) (H' : Hp), H' p = some (.tup ((marksN n).map V.int)) → H p = none → Same H H' → Q (.ref p) H'
def spShrunk (CF C : Addr) : Sp := fun vs H Q _ => ∃ (t fam pf : Addr) (fs : List (Option Str)) (many : Int) (pc : Addr) (cy : List V) (cells : List (List Int)), vs = [.ref t] ∧ TabAt C H t fam pf ∧ H pf = some (.tup (fs.map formV)) ∧ FamAt CF H fam many pc ∧ H pc = some (.tup cy) ∧ Mks H cy cells ∧
  (∀ c ∈ cells, MarksOk 6 c) ∧ cells.length ≤ 24 ∧ cells.length = fs.length ∧
  ∀ (d : Addr) (F : List Str) (s : StS) (g : Str → Addr) (H' : Hp), RunEnd cells fs F s → HeldAt H' d F (fun z => marksN (s.1 z)) g → H d = none → Same H H' → Q (.ref d) H'
def spStrikes (CF C : Addr) : Sp := fun vs H Q _ => ∃ (t fam pf : Addr) (fs : List (Option Str)) (many : Int) (pc : Addr) (cy : List V) (cells : List (List Int)), vs = [.ref t] ∧ TabAt C H t fam pf ∧ H pf = some (.tup (fs.map formV)) ∧ FamAt CF H fam many pc ∧ H pc = some (.tup cy) ∧ Mks H cy cells ∧
  (∀ c ∈ cells, MarksOk 6 c) ∧ cells.length ≤ 24 ∧ cells.length = fs.length ∧
  ∀ (l : Addr) (F : List Str) (s : StS) (ys : List V) (H' : Hp), RunEnd cells fs F s → H' l = some (.lst ys) → Stks H' ys s.2 → H l = none → Same H H' → Q (.ref l) H'
end Xci

namespace Xci
open PySem PySem.Spec PyProof.Rows L2
/-! ### d.copy() of a dict with plain keys; == and != of such dicts that hold the same tuples of numbers -/
section
variable {X : Cx}
def rCopyK : V → List V → Hp → VK → Prop := fun x vs H Q => ∃ (a : Addr) (kvs : List (Key × V)), x = .ref a ∧ vs = [] ∧ H a = some (.dK kvs) ∧ ∀ p, H p = none → Q (.ref p) (upd H p (.dK kvs))
theorem mtd_copyK : MtR X "dict.copy" rCopyK := by
  intro pins s σ H x vs v us Q I rx rv h
  obtain ⟨a, kvs, rfl, rfl, ea, q⟩ := h
  cases rx
  obtain rfl := rv.zero
  obtain ⟨z, hd, xs, rel, dd⟩ := L2.dk_of I.hok ea
  refine call_meetsIn F.slot_dict_copy dd.typeIs F.entry_dict_copy (F.args_dict_copy_1 _) (meets_dict_copy _ a hd) ⟨xs, dd, by rw [← rel.length]; exact z, fun h' d1 d2 keep => ?_⟩
  exact ⟨.ref _, _, I.laid (a := s.heap.objs.size) (o := .dK kvs) (t' := s.toks) keep (Nat.le_refl _) (L2.dk_new z (beq_eq_false_iff_ne.mpr (Ne.symm (Nat.ne_of_lt I.big))) rel d1), rfl, q _ (I.hok.fresh (Nat.le_refl _))⟩
/-- the same keys, and by each the same tuple of numbers -/
def AlikeK (K : PySem.W.Frag) (H : Hp) (ks ls : List (Key × V)) : Prop := ks.length = ls.length ∧ ∀ p ∈ ks, ∃ q ms, valV ls p.1 = some q ∧ Xci.Mk H p.2 ms ∧ Xci.Mk H q ms
def rAlike (K : PySem.W.Frag) (yes : Bool) : R2 := fun x y H Q => ∃ (a b : Addr) (ks ls : List (Key × V)), x = .ref a ∧ y = .ref b ∧ H a = some (.dK ks) ∧ H b = some (.dK ls) ∧ AlikeK K H ks ls ∧ Q (.bl yes) H
theorem hits_mk {pins : List (Addr × Obj)} {σ : L2.St} {H : Hp} {s : Shared} {A : Around} (I : Inv X pins σ H s) (hu : A.units + 2 < cLine) {ls : List (Key × V)} {vb : List (Key × Value)} (rb : KV ls vb) : ∀ {ks : List (Key × V)} {va : List (Key × Value)}, KV ks va →
    (∀ p ∈ ks, ∃ q ms, valV ls p.1 = some q ∧ Xci.Mk H p.2 ms ∧ Xci.Mk H q ms) → PySem.W.KeqHitsIn X.prog X.w A s vb va true
  | [], _, .nil, _ => .nil
  | p :: r, _, .cons (b := (k, v)) h t, hp => by
    obtain ⟨q, ms, eq, m1, m2⟩ := hp p List.mem_cons_self
    obtain ⟨h1, h2⟩ := h
    have h1' : p.1 = k := h1
    have rr : RelO (some q) (valueAt vb k) := by rw [← eq, h1']; exact rb.val k
    obtain ⟨y, hy, ry⟩ := rr.some_of
    obtain ⟨as, r1⟩ := Dp.reads I _ _ v (dp_mk m1) h2
    obtain ⟨bs, r2⟩ := Dp.reads I _ _ y (dp_mk m2) ry
    have e := SeqAt.eqAt_reads (mkD ms) (mkD ms) A s v y _ _ r1 r2 (lay_mk ms) (lay_mk ms) (by rw [deep_mk]; omega)
    have t2 : PyData.eqv (mkD ms) (mkD ms) = true := by simpa using any_mk ms [ms]
    rw [t2] at e
    have ih := hits_mk I hu rb t fun p' hp' => hp p' (List.mem_cons_of_mem _ hp')
    exact .hit (b := true) hy (e.inModel _ _) ih
theorem op_alike {op : CmpOp} (ho : op = .Eq ∨ op = .NotEq) (hu : X.A.units + 4 < cLine) : OpR X (compareOp op) (rAlike X.K (decide (op = .Eq))) := by
  intro pins s σ H x y v u Q I rx ry h
  obtain ⟨a, b, ks, ls, rfl, rfl, ea, eb, ⟨hlen, hp⟩, q⟩ := h
  obtain rfl : v = Value.ref a := rx
  obtain rfl : u = Value.ref b := ry
  obtain ⟨_, ya, va, ra, da⟩ := L2.dk_of I.hok ea
  obtain ⟨_, yb, vb, rb, db⟩ := L2.dk_of I.hok eb
  have hl : va.length = vb.length := by rw [← ra.length, ← rb.length]; exact hlen
  have ta := da.typeIs (s := s)
  have tb := db.typeIs (s := s)
  have both : ∀ (nm : String) (R : Bool → Shared → Prop), R true s → wpAny (model X.prog X.w) X.A.in1 (Builtin.Dict.samePairs nm a b) R X.xe s := fun nm R h =>
    PySem.W.keq_samePairsIn (knd := mixKind X.prog X.w) (r := true) ya yb da db (fun _ => hits_mk I (by show X.A.units + 1 + 2 < cLine; omega) rb ra hp) (by simpa [hl] using h)
  have args : ∀ (nm : String) (R : Value × Value → Shared → Prop) (B : Around), R (.ref a, .ref b) s → wpAny (model X.prog X.w) B (Builtin.Dict.dictSlotArgs nm ⟨[.ref a, .ref b], []⟩) R X.xe s := fun nm R B h => by
    unfold Builtin.Dict.dictSlotArgs
    exact wpAny_bind (wpAny_notOrdered_dict ta (wpAny_bind (m := slotArgs nm 1 _) (wpAny_pure (wpAny_pure h))))
  have fin : ∀ yes, Q (.bl yes) H → EP X pins σ Q (Value.bool yes) s := fun yes q => ⟨.bl yes, H, I, rfl, q⟩
  rcases ho with rfl | rfl
  · refine wpAny_richCompare_same_room (op := .Eq) ta tb F.slot_dict_eq (wpAny_call_entry F.slot_dict_eq ta F.entry_dict_eq ?_ (F.args_dict_eq_2 _ _)) (by omega)
    refine wpAny_bind (m := Builtin.Dict.dictSlotArgs "__eq__" _) (args _ _ _ (wpAny_bind (wpAny_isInstance (T := "dict") tb F.sub_dict_dict ?_)))
    simp only [Bool.not_true, Bool.false_eq_true, if_false]
    refine wpAny_bind (wpAny_pure (wpAny_bind (wpAny_pure (wpAny_bind (both _ _ (wpAny_pure ⟨_, rfl, nofun, ?_⟩))))))
    simpa using fin _ q
  · refine wpAny_richCompare_same_room (op := .NotEq) ta tb F.slot_dict_ne (wpAny_call_entry F.slot_dict_ne ta F.entry_dict_ne ?_ (F.args_dict_ne_2 _ _)) (by omega)
    refine wpAny_bind (m := Builtin.Dict.dictSlotArgs "__ne__" _) (args _ _ _ (wpAny_bind (wpAny_isInstance (T := "dict") tb F.sub_dict_dict ?_)))
    simp only [Bool.not_true, Bool.false_eq_true, if_false]
    refine wpAny_bind (wpAny_pure (wpAny_bind (wpAny_pure (wpAny_bind (both _ _ (wpAny_pure ⟨_, rfl, nofun, ?_⟩))))))
    simpa using fin _ q
end
end Xci

namespace Xci
open PySem L2
/-! ### strikes as the law replays them -/
section
variable {cells : List (List Int)} {fs : List (Option Str)} {F : List Str}
/-- a strike that can be done by these marks -/
structure EndsAt (cells : List (List Int)) (fs : List (Option Str)) (F : List Str) (ms : Str → List Int) (t : Stk) : Prop where
  inF : t.1 ∈ F
  ne : t.2.1 ≠ t.1
  form : fs[t.2.2]? = some (some t.2.1)
  cell : ∃ c, cells[t.2.2]? = some c ∧ inside (ms t.1) c = true
  less : inside (ms t.1) (ms t.2.1) = false
theorem ends_yes {ms : Str → List Int} {ts : List Stk} {A : Stk → Prop} {z o : Str} {j : Nat} {c : List Int} (I : ∀ t, t ∈ ts ↔ EndsAt cells fs F ms t ∧ (A t ∨ (t.1 = z ∧ t.2.2 < j))) (zF : z ∈ F) (ho : fs[j]? = some (some o)) (hc : cells[j]? = some c) (h1 : o ≠ z) (h2 : inside (ms z) c = true) (h3 : inside (ms z) (ms o) = false) :
    ∀ t, t ∈ ts ++ [(z, o, j)] ↔ EndsAt cells fs F ms t ∧ (A t ∨ (t.1 = z ∧ t.2.2 < j + 1)) := by
  intro t
  rw [List.mem_append, List.mem_singleton, I]
  constructor
  · rintro (⟨e, a⟩ | rfl)
    · exact ⟨e, a.imp id fun h => ⟨h.1, Nat.lt_succ_of_lt h.2⟩⟩
    · exact ⟨⟨zF, h1, ho, ⟨c, hc, h2⟩, h3⟩, .inr ⟨rfl, Nat.lt_succ_self _⟩⟩
  · rintro ⟨e, a | ⟨h, l⟩⟩
    · exact .inl ⟨e, .inl a⟩
    · rcases Nat.lt_or_ge t.2.2 j with q | q
      · exact .inl ⟨e, .inr ⟨h, q⟩⟩
      · have ej : t.2.2 = j := by omega
        have ef := e.form
        rw [ej, ho] at ef
        exact .inr (Prod.ext h (Prod.ext (Option.some.inj (Option.some.inj ef)).symm ej))
theorem ends_no {ms : Str → List Int} {ts : List Stk} {A : Stk → Prop} {z : Str} {j : Nat} (I : ∀ t, t ∈ ts ↔ EndsAt cells fs F ms t ∧ (A t ∨ (t.1 = z ∧ t.2.2 < j))) (no : ∀ t, t.1 = z → t.2.2 = j → ¬ EndsAt cells fs F ms t) :
    ∀ t, t ∈ ts ↔ EndsAt cells fs F ms t ∧ (A t ∨ (t.1 = z ∧ t.2.2 < j + 1)) := by
  intro t
  rw [I]
  constructor
  · rintro ⟨e, a⟩
    exact ⟨e, a.imp id fun h => ⟨h.1, Nat.lt_succ_of_lt h.2⟩⟩
  · rintro ⟨e, a | ⟨h, l⟩⟩
    · exact ⟨e, .inl a⟩
    · rcases Nat.lt_or_ge t.2.2 j with q | q
      · exact ⟨e, .inr ⟨h, q⟩⟩
      · exact absurd e (no t h (by omega))
theorem inside_no {ms ns : List Int} : inside ms ns = false ↔ ∃ m ∈ ms, m ∉ ns := by
  unfold inside
  rw [List.all_eq_false]
  exact ⟨fun ⟨m, h, q⟩ => ⟨m, h, fun z => q (decide_eq_true z)⟩, fun ⟨m, h, q⟩ => ⟨m, h, fun z => q (of_decide_eq_true z)⟩⟩
/-- lists of marks that say what the masks say -/
def Says (F : List Str) (ms : Str → List Int) (x : Str → Nat) : Prop := ∀ z ∈ F, MarksOk 6 (ms z) ∧ ∀ m, m ∈ ms z ↔ hasB (x z) m
theorem says_ends {ms : Str → List Int} {x : Str → Nat} (S : Says F ms x) (ok : ∀ c ∈ cells, MarksOk 6 c) {z o : Str} {j : Nat} {c : List Int} (zF : z ∈ F) (oF : o ∈ F) (hc : cells[j]? = some c) (ho : fs[j]? = some (some o)) : struck x z o c ↔ EndsAt cells fs F ms (z, o, j) := by
  have cok := ok c (List.mem_of_getElem? hc)
  have a : x z &&& maskN c = x z ↔ inside (ms z) c = true := by
    rw [and_sub]
    exact ⟨fun h => inside_of fun m hm => (has_mask cok.up cok.lo m).mp (h m (((S z zF).2 m).mp hm)), fun h m hm => (has_mask cok.up cok.lo m).mpr (inside_mem h m (((S z zF).2 m).mpr hm))⟩
  have b : x z &&& x o ≠ x z ↔ inside (ms z) (ms o) = false := by
    rw [Ne, and_sub, ← Bool.not_eq_true]
    refine not_congr ⟨fun h => inside_of fun m hm => ((S o oF).2 m).mpr (h m (((S z zF).2 m).mp hm)), fun h m hm => ((S o oF).2 m).mp (inside_mem h m (((S z zF).2 m).mpr hm))⟩
  constructor
  · rintro ⟨h1, h2⟩
    refine ⟨zF, fun e => ?_, ho, ⟨c, hc, a.mp h1⟩, b.mp h2⟩
    have e' : o = z := e
    rw [e'] at h2
    exact h2 (Nat.and_self _)
  · intro e
    obtain ⟨c', hc', h'⟩ := e.cell
    have : c' = c := Option.some.inj (hc'.symm.trans hc)
    subst this
    exact ⟨a.mpr h', b.mpr e.less⟩
def setL (ms : Str → List Int) (z : Str) (l : List Int) (y : Str) : List Int := if y = z then l else ms y
theorem Says.hit {ms : Str → List Int} {x : Str → Nat} (S : Says F ms x) {z o : Str} (zF : z ∈ F) (oF : o ∈ F) : Says F (setL ms z ((ms z).filter fun m => decide (m ∈ ms o))) (setX x z (x z &&& x o)) := by
  intro y hy
  unfold setL
  by_cases e : y = z
  · subst e
    rw [if_pos rfl, setX_at]
    refine ⟨(S y hy).1.sub List.filter_sublist, fun m => ?_⟩
    rw [List.mem_filter, decide_eq_true_iff, has_and, (S y hy).2, (S o oF).2]
  · rw [if_neg e, setX_ne e]
    exact S y hy
def stepX (x : Str → Nat) (t : Stk) : Str → Nat := setX x t.1 (x t.1 &&& x t.2.1)
def runX (x0 : Str → Nat) (ts : List Stk) : Str → Nat := ts.foldl stepX x0
theorem Chain.at' {x0 x : Str → Nat} {ts : List Stk} (C : Chain F cells fs x0 ts x) : x = runX x0 ts ∧ ∀ (i : Nat) (t : Stk), ts[i]? = some t → t.1 ∈ F ∧ t.2.1 ∈ F ∧ ∃ c, cells[t.2.2]? = some c ∧ fs[t.2.2]? = some (some t.2.1) ∧ struck (runX x0 (ts.take i)) t.1 t.2.1 c := by
  induction C with
  | nil => exact ⟨rfl, fun i t h => nomatch h⟩
  | @snoc ts x z o i c C zF oF h1 h2 st ih =>
    obtain ⟨e, q⟩ := ih
    refine ⟨by unfold runX at e ⊢; rw [List.foldl_append, ← e]; rfl, fun k t hk => ?_⟩
    rcases Nat.lt_or_ge k ts.length with l | l
    · rw [List.getElem?_append_left l] at hk
      rw [List.take_append_of_le_length (Nat.le_of_lt l)]
      exact q k t hk
    · rw [List.getElem?_append_right l] at hk
      have k0 : k - ts.length = 0 := by
        have := (List.getElem?_eq_some_iff.mp hk).1
        rw [List.length_singleton] at this
        omega
      rw [k0] at hk
      obtain rfl : (z, o, i) = t := Option.some.inj hk
      have kl : k = ts.length := by omega
      rw [kl, List.take_left, ← e]
      exact ⟨zF, oF, c, h1, h2, st⟩
theorem runX_next {x0 : Str → Nat} {ts : List Stk} {i : Nat} {t : Stk} (h : ts[i]? = some t) : runX x0 (ts.take (i + 1)) = stepX (runX x0 (ts.take i)) t := by
  unfold runX
  rw [List.take_add_one, h, List.foldl_append]
  rfl
/-- the shared marks, by both -/
theorem says_common {G : List Str} (len : fs.length = cells.length) (ok : ∀ c ∈ cells, MarksOk 6 c) (hG : ∀ z ∈ G, some z ∈ fs) : Says G (commonL (rowsOf cells fs)) (comO (rowsOf cells fs)).2 := by
  intro z hz
  obtain ⟨N, S⟩ := com_names (cells := cells) (fs := fs) ok
  have ne := cells_named len (hG z hz)
  have zn : z ∈ (comO (rowsOf cells fs)).1 := by
    rw [N.mem]
    obtain ⟨i, hi⟩ := List.mem_iff_getElem?.mp (hG z hz)
    have li := (List.getElem?_eq_some_iff.mp hi).1
    exact ⟨(cells[i]'(by omega), z), rows_mem.mpr ⟨i, List.getElem?_eq_getElem (by omega), hi⟩, rfl⟩
  refine ⟨commonL_ok ne fun c hc => ok c (cells_told hc), fun m => ?_⟩
  rw [commonL_mem ne, S z zn, shared0_cells]
theorem named_in (len : fs.length = cells.length) {z : Str} : some z ∈ fs ↔ Named (rowsOf cells fs) z := by
  constructor
  · intro h
    obtain ⟨i, hi⟩ := List.mem_iff_getElem?.mp h
    have li := (List.getElem?_eq_some_iff.mp hi).1
    exact ⟨(cells[i]'(by omega), z), rows_mem.mpr ⟨i, List.getElem?_eq_getElem (by omega), hi⟩, rfl⟩
  · rintro ⟨r, hr, rfl⟩
    obtain ⟨i, _, h2⟩ := rows_mem.mp hr
    exact List.mem_of_getElem? h2
end
/-- a strike as data -/
def stkD (t : Stk) : PyData := .tuple [.str t.1, .str t.2.1, .int (t.2.2 : Nat)]
def OkS (t : Stk) : Prop := PyData.strOk t.1 = true ∧ PyData.strOk t.2.1 = true
theorem okS_vs {t : Stk} (h : OkS t) : ∀ x ∈ [V.str t.1, V.str t.2.1, V.int (t.2.2 : Nat)], okV x = true := by
  intro x hx
  rcases List.mem_cons.mp hx with rfl | hx
  · exact h.1
  rcases List.mem_cons.mp hx with rfl | hx
  · exact h.2
  rcases List.mem_cons.mp hx with rfl | hx
  · rfl
  · cases hx
theorem dp_stk {K : PySem.W.Frag} {H : Hp} {v : V} {t : Stk} (h : Tup H v [.str t.1, .str t.2.1, .int (t.2.2 : Nat)]) (ok : OkS t) : Dp K H v (stkD t) := by
  obtain ⟨a, rfl, e⟩ := h
  exact .tup (sqT e) (dpVs (okS_vs ok))
theorem dp_stks {K : PySem.W.Frag} {H : Hp} : ∀ {ys : List V} {ts : List Stk}, Stks H ys ts → (∀ t ∈ ts, OkS t) → DpAll K H ys (ts.map stkD)
  | _, _, .nil, _ => .nil
  | _, _, .cons h r, ok => .cons (dp_stk h (ok _ List.mem_cons_self)) (dp_stks r fun t ht => ok t (List.mem_cons_of_mem _ ht))
theorem lay_stk {t : Stk} (ok : OkS t) : PyData.canLay0 (stkD t) = true ∧ PyData.depth (stkD t) = 1 := by
  obtain ⟨a, b⟩ := layVs (okS_vs ok)
  have e : stkD t = .tuple ([V.str t.1, V.str t.2.1, V.int (t.2.2 : Nat)].map pd) := rfl
  rw [e]
  exact ⟨by simpa [PyData.canLay0] using a, by simp only [PyData.depth]; rw [b]⟩
theorem lay_stks : ∀ {ts : List Stk}, (∀ t ∈ ts, OkS t) → PyData.canLayAll0 (ts.map stkD) = true ∧ PyData.depthAll (ts.map stkD) ≤ 1
  | [], _ => ⟨rfl, Nat.zero_le _⟩
  | t :: r, ok => by
    obtain ⟨a, b⟩ := lay_stk (ok t List.mem_cons_self)
    obtain ⟨c, d⟩ := lay_stks (ts := r) fun y hy => ok y (List.mem_cons_of_mem _ hy)
    rw [List.map_cons]
    refine ⟨by simp [PyData.canLayAll0, a, c], ?_⟩
    rw [PyData.depthAll]
    exact Nat.max_le.mpr ⟨by rw [b]; exact Nat.le_refl _, d⟩
theorem sh_stk {t : Stk} (ok : OkS t) : SeqAt.shaped (stkD t) = true := by
  obtain ⟨a, b⟩ := lay_stk ok
  simp [SeqAt.shaped, a, b]
theorem sh_stks {ts : List Stk} (ok : ∀ t ∈ ts, OkS t) : SeqAt.shaped (.list (ts.map stkD)) = true := by
  obtain ⟨a, b⟩ := lay_stks ok
  have d : PyData.depth (.list (ts.map stkD)) ≤ 64 := by
    simp only [PyData.depth]
    omega
  unfold SeqAt.shaped
  rw [decide_eq_true d, Bool.and_true]
  simpa [PyData.canLay0] using a
theorem any_stk {ts : List Stk} {t : Stk} (ok : OkS t) (h : t ∈ ts) : ((ts.map stkD).any fun z => PyData.eqv z (stkD t)) = true :=
  List.any_eq_true.mpr ⟨stkD t, List.mem_map.mpr ⟨t, h, rfl⟩, eqv_same (sh_stk ok)⟩
def spEnds : Sp := fun vs H Q _ => ∃ (v : V) (many : Int) (pc pf : Addr) (cy : List V) (cells : List (List Int)) (fs : List (Option Str)) (d : Addr) (F : List Str) (ms : Str → List Int) (g : Str → Addr), vs = [v, .ref d] ∧ PlotS H v many pc pf cy cells fs ∧ HeldAt H d F ms g ∧ F.Nodup ∧ F.length ≤ 24 ∧ (∀ z, some z ∈ fs → z ∈ F) ∧ (∀ z ∈ F, MarksOk 6 (ms z)) ∧
  ∀ (l : Addr) (ys : List V) (ts : List Stk) (H' : Hp), H' l = some (.lst ys) → Stks H' ys ts → (∀ t, t ∈ ts ↔ EndsAt cells fs F ms t) → ts.length ≤ 1000 → H l = none → Same H H' → Q (.ref l) H'
def spStruckL : Sp := fun vs H Q _ => ∃ (d : Addr) (v : V) (F : List Str) (ms : Str → List Int) (g : Str → Addr) (t : Stk), vs = [.ref d, v] ∧ HeldAt H d F ms g ∧ F.length ≤ 24 ∧ Tup H v [.str t.1, .str t.2.1, .int (t.2.2 : Nat)] ∧ t.1 ∈ F ∧ t.2.1 ∈ F ∧ (∀ z ∈ F, MarksOk 6 (ms z)) ∧
  ∀ (e : Addr) (g' : Str → Addr) (H' : Hp), HeldAt H' e F (setL ms t.1 ((ms t.1).filter fun m => decide (m ∈ ms t.2.1))) g' → H e = none → Same H H' → Q (.ref e) H'
def spDone : Sp := fun vs H Q _ => ∃ (v : V) (many : Int) (pc pf : Addr) (cy : List V) (cells : List (List Int)) (fs : List (Option Str)) (l : Addr) (ys : List V) (ts : List Stk) (G : List Str) (x : Str → Nat), vs = [v, .ref l] ∧ PlotS H v many pc pf cy cells fs ∧ H l = some (.lst ys) ∧ Stks H ys ts ∧ Chain G cells fs (comO (rowsOf cells fs)).2 ts x ∧ (∀ z ∈ G, some z ∈ fs) ∧
  ∀ (d : Addr) (F : List Str) (ms : Str → List Int) (g : Str → Addr) (H' : Hp), Rising fs F → HeldAt H' d F ms g → Says F ms x → H d = none → Same H H' → Q (.ref d) H'
def spLinePlot : Sp := fun vs H Q _ => ∃ (a l : Addr), vs = [.ref a] ∧ Src H a l ∧
  ∀ (v : V) (many : Int) (pc pf : Addr) (cy : List V) (cells : List (List Int)) (fs : List (Option Str)) (H' : Hp), PlotS H' v many pc pf cy cells fs → Src H' a l → Q v H'
end Xci

namespace Xci
open PySem L2
section
variable {cells : List (List Int)} {fs : List (Option Str)} {F G : List Str}
theorem still_x {x : Str → Nat} (ok : ∀ c ∈ cells, MarksOk 6 c) (mem : ∀ z, z ∈ F ↔ Named (rowsOf cells fs) z) (h : ∀ (i : Nat) (c : List Int) (o : Str), cells[i]? = some c → fs[i]? = some (some o) → ∀ z ∈ F, ¬ struck x z o c) : Still (rowsOf cells fs) fun z => hasB (x z) := by
  intro z nz r hr w m hm
  obtain ⟨i, h1, h2⟩ := rows_mem.mp hr
  have cok := ok r.1 (List.mem_of_getElem? h1)
  have q := h i r.1 r.2 h1 h2 z ((mem z).mpr nz)
  have a : x z &&& maskN r.1 = x z := and_sub.mpr fun k hk => (has_mask cok.up cok.lo k).mpr (w k hk)
  by_cases e : x z &&& x r.2 = x z
  · exact and_sub.mp e m hm
  · exact absurd ⟨a, e⟩ q
theorem RunEnd.ended {s : StS} (h : RunEnd cells fs F s) (ok : ∀ c ∈ cells, MarksOk 6 c) : Ended (rowsOf cells fs) F s.1 := by
  have N := h.names ok
  obtain ⟨N0, S0⟩ := com_names (cells := cells) (fs := fs) ok
  refine ⟨(h.chain ok).under N ok (Under.start fun z nz m => S0 z ((N0.mem z).mpr nz) m), still_x ok N.mem fun i c o h1 h2 => ?_⟩
  obtain ⟨n, _, q⟩ := h.2
  exact round_quiet q h1 h2
theorem ended_one {x y : Str → Nat} (A : Ended (rowsOf cells fs) F x) (B : Ended (rowsOf cells fs) G y) {z : Str} (n : Named (rowsOf cells fs) z) : x z = y z := has_ext fun m => Under.one A.un A.st B.un B.st n m
theorem says_one {ms ms' : Str → List Int} {x y : Str → Nat} (A : Says F ms x) (B : Says G ms' y) {z : Str} (zF : z ∈ F) (zG : z ∈ G) (e : x z = y z) : ms z = ms' z :=
  MarksOk.one (A z zF).1 (B z zG).1 fun m => by rw [(A z zF).2, (B z zG).2, e]
theorem alike_of {K : PySem.W.Frag} {H : Hp} {d e : Addr} {g g' : Str → Addr} {ms ms' : Str → List Int} (A : HeldAt H d F ms g) (B : HeldAt H e G ms' g') (nF : F.Nodup) (nG : G.Nodup) (mem : ∀ z, z ∈ F ↔ z ∈ G) (same : ∀ z ∈ F, ms z = ms' z) : AlikeK K H (dkOf F (refV g)) (dkOf G (refV g')) := by
  refine ⟨by rw [dk_len, dk_len]; exact ((List.perm_ext_iff_of_nodup nF nG).mpr mem).length_eq, fun p hp => ?_⟩
  obtain ⟨z, hz, rfl⟩ := List.mem_map.mp hp
  have zG := (mem z).mp hz
  refine ⟨refV g' z, ms z, dk_val zG, ⟨g z, rfl, A.each z hz⟩, ⟨g' z, rfl, ?_⟩⟩
  rw [same z hz]
  exact B.each z zG
theorem RunEnd.says {s : StS} (h : RunEnd cells fs F s) (ok : ∀ c ∈ cells, MarksOk 6 c) : Says F (fun z => marksN (s.1 z)) s.1 := fun z hz => ⟨marksN_ok _, fun m => marksN_mem (h.small ok z hz) m⟩
/-- a strike takes marks -/
theorem cnt_hit {ms : Str → List Int} {t : Stk} (nd : F.Nodup) (e : EndsAt cells fs F ms t) : pot F (fun y => (setL ms t.1 ((ms t.1).filter fun m => decide (m ∈ ms t.2.1)) y).length) < pot F fun y => (ms y).length := by
  have less : ((ms t.1).filter fun m => decide (m ∈ ms t.2.1)).length < (ms t.1).length := by
    obtain ⟨m, hm, no⟩ := inside_no.mp e.less
    refine Nat.lt_of_le_of_ne (List.length_filter_le _ _) fun q => ?_
    have := List.length_filter_eq_length_iff.mp q m hm
    exact no (of_decide_eq_true this)
  have f : (fun y => (setL ms t.1 ((ms t.1).filter fun m => decide (m ∈ ms t.2.1)) y).length) = setX (fun y => (ms y).length) t.1 ((ms t.1).filter fun m => decide (m ∈ ms t.2.1)).length := funext fun y => by
    unfold setL setX
    split <;> rfl
  rw [f]
  exact pot_set less nd e.inF
theorem cnt_le {ms : Str → List Int} : ∀ {F : List Str}, (∀ z ∈ F, MarksOk 6 (ms z)) → pot F (fun y => (ms y).length) ≤ 6 * F.length
  | [], _ => Nat.le_refl _
  | y :: r, h => by
    show (ms y).length + pot r (fun y => (ms y).length) ≤ 6 * (r.length + 1)
    have := cnt_le (F := r) fun z hz => h z (List.mem_cons_of_mem _ hz)
    have := (h y List.mem_cons_self).len
    omega
end
/-- no two forms with the same marks -/
def ApartX (F : List Str) (x : Str → Nat) : Prop := ∀ y ∈ F, ∀ z ∈ F, x y = x z → y = z
/-- a table and what it stands on -/
structure TabX (CF C : Addr) (H : Hp) (t : Addr) (cells : List (List Int)) (fs : List (Option Str)) : Prop where
  ex : ∃ (fam pf : Addr) (many : Int) (pc : Addr) (cy : List V), TabAt C H t fam pf ∧ H pf = some (.tup (fs.map formV)) ∧ FamAt CF H fam many pc ∧ H pc = some (.tup cy) ∧ Mks H cy cells
  ok : ∀ c ∈ cells, MarksOk 6 c
  few : cells.length ≤ 24
  len : cells.length = fs.length
  word : ∀ z, some z ∈ fs → WordOk z
theorem TabX.same {CF C : Addr} {H H' : Hp} {t : Addr} {cells : List (List Int)} {fs : List (Option Str)} (h : TabX CF C H t cells fs) (s : Same H H') : TabX CF C H' t cells fs := by
  obtain ⟨⟨fam, pf, many, pc, cy, ⟨dt, et⟩, hp, ⟨df, ef⟩, hc, m⟩, r⟩ := h
  exact ⟨⟨fam, pf, many, pc, cy, ⟨dt, s _ _ et⟩, s _ _ hp, ⟨df, s _ _ ef⟩, s _ _ hc, m.keep (TFr.same s)⟩, by assumption, by assumption, by assumption, by assumption⟩
def spFirstEqual (CF C : Addr) : Sp := fun vs H Q _ => ∃ (t : Addr) (cells : List (List Int)) (fs : List (Option Str)), vs = [.ref t] ∧ TabX CF C H t cells fs ∧
  ∀ (v : V) (F : List Str) (s : StS) (H' : Hp), RunEnd cells fs F s → ((ApartX F s.1 ∧ v = .non) ∨ (¬ ApartX F s.1 ∧ ∃ p, v = .ref p)) → Same H H' → Q v H'
def spWithinBook (CF C : Addr) : Sp := fun vs H Q _ => ∃ (t : Addr) (cells : List (List Int)) (fs : List (Option Str)), vs = [.ref t] ∧ TabX CF C H t cells fs ∧
  ∀ (v : V) (F : List Str) (s : StS) (H' : Hp), RunEnd cells fs F s → ((ApartX F s.1 ∧ ∃ p, v = .ref p) ∨ (¬ ApartX F s.1 ∧ v = .non)) → Same H H' → Q v H'
def spLawEnd : Sp := fun vs H Q _ => ∃ (a l : Addr) (v : V) (many : Int) (pc pf : Addr) (cy : List V) (cells : List (List Int)) (fs : List (Option Str)), vs = [.ref a, v] ∧ Src H a l ∧ PlotS H v many pc pf cy cells fs ∧
  ∀ (d : Addr) (F : List Str) (ms : Str → List Int) (g : Str → Addr) (x : Str → Nat) (H' : Hp), Rising fs F → HeldAt H' d F ms g → Says F ms x → Ended (rowsOf cells fs) F x → H d = none → Src H' a l → Fr2 a l H H' → Q (.ref d) H'
end Xci

namespace Xci
open PySem L2
/-! ### papers of strikes, as data of any kind -/
def spokenB (fs : List (Option Str)) : PyData → Bool
  | .str z => decide (some z ∈ fs)
  | _ => false
/-- the strike that it names -/
def namesD (fs : List (Option Str)) : PyData → Option Stk
  | .tuple [.str z, .str o, .int i] => if some z ∈ fs ∧ some o ∈ fs ∧ 0 ≤ i ∧ i ≤ (fs.length : Int) - 1 ∧ fs[i.toNat]? = some (some o) then some (z, o, i.toNat) else none
  | _ => none
def leftD (cells : List (List Int)) (fs : List (Option Str)) : (Str → Nat) → List PyData → Option (Str → Nat)
  | x, [] => some x
  | x, d :: r => match namesD fs d with
    | none => none
    | some t => match cells[t.2.2]? with
      | some c => if struck x t.1 t.2.1 c then leftD cells fs (stepX x t) r else none
      | none => none
def canB (cells : List (List Int)) (fs : List (Option Str)) (F : List Str) (x : Str → Nat) : Bool := (rowsOf cells fs).any fun r => F.any fun z => decide (struck x z r.2 r.1)
def barB (cells : List (List Int)) (fs : List (Option Str)) : PyData → Bool
  | .tuple [.list ds, .str z, .str o] => decide (some z ∈ fs) && decide (some o ∈ fs) && decide (z.cps.toList < o.cps.toList) && (match leftD cells fs (comO (rowsOf cells fs)).2 ds with
    | none => false
    | some x => decide (x z = x o) && !canB cells fs (comO (rowsOf cells fs)).1 x)
  | _ => false
def spSpokenD (C : Addr) : Sp := fun vs H Q _ => ∃ (N : Out) (t fam p : Addr) (fs : List (Option Str)) (v : V) (d : PyData), vs = [.ref t, v] ∧ TabAt C H t fam p ∧ H p = some (.tup (fs.map formV)) ∧ Dt N H v d ∧ Q (.bl (spokenB fs d)) H
def spPlaceD : Sp := fun vs H Q _ => ∃ (N : Out) (p : Addr) (ys : List V) (v : V) (d : PyData), vs = [.ref p, v] ∧ H p = some (.tup ys) ∧ Dt N H v d ∧ Q (.bl (btwD 0 ((ys.length : Int) - 1) d)) H
def spNamesD (C : Addr) : Sp := fun vs H Q _ => ∃ (N : Out) (t fam p : Addr) (fs : List (Option Str)) (v : V) (d : PyData), vs = [.ref t, v] ∧ TabAt C H t fam p ∧ H p = some (.tup (fs.map formV)) ∧ Dt N H v d ∧ Q (.bl (namesD fs d).isSome) H
def spStruckR : Sp := fun vs H Q _ => ∃ (d : Addr) (F : List Str) (x : Str → Nat) (z o : Str) (c : List Int), vs = [.ref d, .str z, .str o, .int (maskN c : Nat)] ∧ Rd H d (.dK (dkOf F (maskV x))) ∧ z ∈ F ∧ o ∈ F ∧ Q (.bl (decide (struck x z o c))) H
def spLeftD (CF C : Addr) : Sp := fun vs H Q _ => ∃ (N : Out) (t l : Addr) (cells : List (List Int)) (fs : List (Option Str)) (ys : List V) (ds : List PyData), vs = [.ref t, .ref l] ∧ TabX CF C H t cells fs ∧ H l = some (.lst ys) ∧ DtAll N H ys ds ∧
  ∀ (v : V) (H' : Hp), ((leftD cells fs (comO (rowsOf cells fs)).2 ds = none ∧ v = .non) ∨ ∃ (x : Str → Nat) (d : Addr), leftD cells fs (comO (rowsOf cells fs)).2 ds = some x ∧ v = .ref d ∧ H' d = some (.dK (dkOf (comO (rowsOf cells fs)).1 (maskV x)))) → Same H H' → Q v H'
def spCanStrike (CF C : Addr) : Sp := fun vs H Q _ => ∃ (t d : Addr) (cells : List (List Int)) (fs : List (Option Str)) (F : List Str) (x : Str → Nat), vs = [.ref t, .ref d] ∧ TabX CF C H t cells fs ∧ H d = some (.dK (dkOf F (maskV x))) ∧ F.length ≤ 24 ∧ (∀ z, some z ∈ fs → z ∈ F) ∧
  ∀ H', Same H H' → Q (.bl (canB cells fs F x)) H'
def spBarD (CF C : Addr) : Sp := fun vs H Q _ => ∃ (N : Out) (t : Addr) (cells : List (List Int)) (fs : List (Option Str)) (v : V) (d : PyData), vs = [.ref t, v] ∧ TabX CF C H t cells fs ∧ Dt N H v d ∧ ∀ H', Same H H' → Q (.bl (barB cells fs d)) H'
/-- what a strike must be like to be looked for among others -/
def StkShape (d : PyData) : Prop := ∀ a b c, d = .tuple [a, b, c] → SeqAt.shaped d = true
def BarShape (d : PyData) : Prop := ∀ ds a b, d = .tuple [.list ds, a, b] → ∀ e ∈ ds, StkShape e
def spLawBar : Sp := fun vs H Q _ => ∃ (N : Out) (v : V) (many : Int) (pc pf : Addr) (cy : List V) (cells : List (List Int)) (fs : List (Option Str)) (u : V) (d : PyData), vs = [v, u] ∧ PlotS H v many pc pf cy cells fs ∧ Dt N H u d ∧ BarShape d ∧ ∀ H', Same H H' → Q (.bl (barB cells fs d)) H'
mutual
theorem dt_dpB {K : PySem.W.Frag} {N : Out} {H : Hp} : ∀ {v : V} {d : PyData}, Dt N H v d → PyData.canLay0 d = true → Dp K H v d
  | _, _, .non, _ => .non
  | _, _, .bl b, _ => .bl b
  | _, _, .int i, _ => .int i
  | _, _, .str x, _ => .str x
  | _, _, .lst _ h r, c => .lst (SqL.of h) (dtAll_dpB r (by simpa [PyData.canLay0] using c))
  | _, _, .tup _ h r, c => .tup (sqT h) (dtAll_dpB r (by simpa [PyData.canLay0] using c))
  | _, _, .dic _ _ _, c => by simp [PyData.canLay0] at c
theorem dtAll_dpB {K : PySem.W.Frag} {N : Out} {H : Hp} : ∀ {vs : List V} {ds : List PyData}, DtAll N H vs ds → PyData.canLayAll0 ds = true → DpAll K H vs ds
  | _, _, .nil, _ => .nil
  | _, _, .cons h r, c => by
    simp only [PyData.canLayAll0, Bool.and_eq_true] at c
    exact .cons (dt_dpB h c.1) (dtAll_dpB r c.2)
end
/-- a strike equals only itself, where the number is no truth value -/
theorem eqv_stk {t : Stk} {a b c : PyData} (nb : isaD "bool" c ≠ true) (h : PyData.eqv (stkD t) (.tuple [a, b, c]) = true) : PyData.tuple [a, b, c] = stkD t := by
  unfold stkD at h ⊢
  rw [PyData.eqv, PyData.eqvAll, PyData.eqvAll, PyData.eqvAll, PyData.eqvAll, Bool.and_eq_true, Bool.and_eq_true, Bool.and_eq_true] at h
  obtain ⟨h1, h2, h3, _⟩ := h
  have es : ∀ {x : Str} {d : PyData}, PyData.eqv (.str x) d = true → d = .str x := fun {x d} e => by
    cases d with
    | str y => rw [PyData.eqv] at e; rw [eq_of_beq e]
    | none => cases e
    | bool _ => cases e
    | int _ => cases e
    | list _ => cases e
    | tuple _ => cases e
    | dict _ => cases e
  have e1 := es h1
  have e2 := es h2
  have e3 : c = .int (t.2.2 : Nat) := by
    cases c with
    | bool x => exact absurd (show isaT "bool" "bool" = true by decide +kernel) nb
    | int i => rw [PyData.eqv] at h3; rw [eq_of_beq h3]
    | none => cases h3
    | str _ => cases h3
    | list _ => cases h3
    | tuple _ => cases h3
    | dict _ => cases h3
  rw [e1, e2, e3]
theorem namesD_bool {fs : List (Option Str)} {a b c : PyData} (h : isaD "bool" c = true) : namesD fs (.tuple [a, b, c]) = none := by
  unfold namesD
  split
  · rename_i z o i e
    simp only [PyData.tuple.injEq, List.cons.injEq] at e
    rw [e.2.2.1] at h
    simp [isaD, isaT, tyD] at h
  · rfl
theorem namesD_of {fs : List (Option Str)} {t : Stk} (h1 : some t.1 ∈ fs) (h2 : fs[t.2.2]? = some (some t.2.1)) : namesD fs (stkD t) = some t := by
  have lt := (List.getElem?_eq_some_iff.mp h2).1
  show (if some t.1 ∈ fs ∧ some t.2.1 ∈ fs ∧ 0 ≤ ((t.2.2 : Nat) : Int) ∧ ((t.2.2 : Nat) : Int) ≤ (fs.length : Int) - 1 ∧ fs[((t.2.2 : Nat) : Int).toNat]? = some (some t.2.1) then some (t.1, t.2.1, ((t.2.2 : Nat) : Int).toNat) else none) = some t
  rw [Int.toNat_natCast, if_pos ⟨h1, List.mem_of_getElem? h2, by omega, by omega, h2⟩]
end Xci

namespace Xci
open PySem L2
section
variable {cells : List (List Int)} {fs : List (Option Str)} {F : List Str} {s : StS}
theorem leftD_snoc' (d : PyData) : ∀ (ds : List PyData) (x : Str → Nat), leftD cells fs x (ds ++ [d]) = (leftD cells fs x ds).bind fun y => leftD cells fs y [d]
  | [], x => rfl
  | e :: r, x => by
    show leftD cells fs x (e :: (r ++ [d])) = _
    unfold leftD
    cases namesD fs e with
    | none => rfl
    | some t =>
      dsimp only
      cases cells[t.2.2]? with
      | none => rfl
      | some c =>
        dsimp only
        split
        · exact leftD_snoc' d r _
        · rfl
/-- what is struck one by one is left behind -/
theorem Chain.left {x0 x : Str → Nat} {ts : List Stk} (mem : ∀ z ∈ F, some z ∈ fs) (C : Chain F cells fs x0 ts x) : leftD cells fs x0 (ts.map stkD) = some x := by
  induction C with
  | nil => rfl
  | @snoc ts x z o i c C zF oF h1 h2 st ih =>
    rw [List.map_append, List.map_cons, List.map_nil, leftD_snoc', ih]
    show leftD cells fs x [stkD (z, o, i)] = _
    unfold leftD
    rw [namesD_of (t := (z, o, i)) (mem z zF) h2]
    dsimp only
    rw [h1]
    dsimp only
    rw [if_pos st]
    rfl
theorem left_under (ok : ∀ c ∈ cells, MarksOk 6 c) (N : Names (rowsOf cells fs) F) (len : fs.length = cells.length) : ∀ (ds : List PyData) {x y : Str → Nat}, Under (rowsOf cells fs) (fun z => hasB (x z)) → leftD cells fs x ds = some y → Under (rowsOf cells fs) fun z => hasB (y z)
  | [], x, y, U, h => by cases h; exact U
  | d :: r, x, y, U, h => by
    unfold leftD at h
    cases hn : namesD fs d with
    | none => rw [hn] at h; cases h
    | some t =>
      rw [hn] at h
      dsimp only at h
      cases hc : cells[t.2.2]? with
      | none => rw [hc] at h; cases h
      | some c =>
        rw [hc] at h
        dsimp only at h
        split at h
        · rename_i st
          have z1 : some t.1 ∈ fs ∧ fs[t.2.2]? = some (some t.2.1) := by
            unfold namesD at hn
            split at hn
            · split at hn
              · rename_i q
                cases hn
                exact ⟨q.1, q.2.2.2.2⟩
              · cases hn
            · cases hn
          exact left_under ok N len r (U.hit N ok ((N.mem _).mpr ((named_in len).mp z1.1)) hc z1.2 st) h
        · cases h
/-- the run's own paper is right -/
theorem bar_true (h : RunEnd cells fs F s) (ok : ∀ c ∈ cells, MarksOk 6 c) (len : fs.length = cells.length) {z o : Str} (zF : z ∈ F) (oF : o ∈ F) (lt : z.cps.toList < o.cps.toList) (e : s.1 z = s.1 o) : barB cells fs (.tuple [.list (s.2.map stkD), .str z, .str o]) = true := by
  have N := h.names ok
  have mem : ∀ z ∈ F, some z ∈ fs := fun z hz => (named_in len).mpr ((N.mem z).mp hz)
  have l := (h.chain ok).left mem
  have can : canB cells fs (comO (rowsOf cells fs)).1 s.1 = false := by
    rw [← h.1]
    obtain ⟨n, _, q⟩ := h.2
    unfold canB
    rw [List.any_eq_false]
    intro r hr
    rw [List.any_eq_true]
    rintro ⟨y, hy, st⟩
    obtain ⟨i, h1, h2⟩ := rows_mem.mp hr
    exact round_quiet q h1 h2 y hy (of_decide_eq_true st)
  show (decide (some z ∈ fs) && decide (some o ∈ fs) && decide (z.cps.toList < o.cps.toList) && (match leftD cells fs (comO (rowsOf cells fs)).2 (s.2.map stkD) with
    | none => false
    | some x => decide (x z = x o) && !canB cells fs (comO (rowsOf cells fs)).1 x)) = true
  rw [l, decide_eq_true (mem z zF), decide_eq_true (mem o oF), decide_eq_true lt]
  dsimp only
  rw [can, decide_eq_true e]
  rfl
/-- where any paper is right, two forms end alike -/
theorem bar_apart (h : RunEnd cells fs F s) (ok : ∀ c ∈ cells, MarksOk 6 c) (len : fs.length = cells.length) {d : PyData} (b : barB cells fs d = true) : ¬ ApartX F s.1 := fun ap => by
  have N := h.names ok
  obtain ⟨N0, S0⟩ := com_names (cells := cells) (fs := fs) ok
  unfold barB at b
  split at b
  · rename_i ds z o
    rw [Bool.and_eq_true, Bool.and_eq_true, Bool.and_eq_true] at b
    obtain ⟨⟨⟨b1, b2⟩, b3⟩, b4⟩ := b
    have hz := of_decide_eq_true b1
    have ho := of_decide_eq_true b2
    have lt := of_decide_eq_true b3
    cases hl : leftD cells fs (comO (rowsOf cells fs)).2 ds with
    | none => rw [hl] at b4; cases b4
    | some x =>
      rw [hl] at b4
      dsimp only at b4
      rw [Bool.and_eq_true] at b4
      have e := of_decide_eq_true b4.1
      have can : canB cells fs (comO (rowsOf cells fs)).1 x = false := by simpa using b4.2
      have U := left_under ok N len ds (Under.start fun z nz m => S0 z ((N0.mem z).mpr nz) m) hl
      have St : Still (rowsOf cells fs) fun z => hasB (x z) := still_x ok N0.mem fun i c o' h1 h2 z' hz' st => by
        have : canB cells fs (comO (rowsOf cells fs)).1 x = true := List.any_eq_true.mpr ⟨(c, o'), rows_mem.mpr ⟨i, h1, h2⟩, List.any_eq_true.mpr ⟨z', hz', decide_eq_true st⟩⟩
        rw [can] at this
        cases this
      have nz := (named_in len).mp hz
      have no := (named_in len).mp ho
      have e1 := ended_one (h.ended ok) (G := F) (y := x) ⟨U, St⟩ nz
      have e2 := ended_one (h.ended ok) (G := F) (y := x) ⟨U, St⟩ no
      have := ap z ((N.mem z).mpr nz) o ((N.mem o).mpr no) (by rw [e1, e2, e])
      rw [this] at lt
      exact List.lt_irrefl _ lt
  · cases b
end
def spFirstEqualX (CF C : Addr) : Sp := fun vs H Q _ => ∃ (t : Addr) (cells : List (List Int)) (fs : List (Option Str)), vs = [.ref t] ∧ TabX CF C H t cells fs ∧
  ∀ (v : V) (F : List Str) (s : StS) (H' : Hp), RunEnd cells fs F s → ((ApartX F s.1 ∧ v = .non) ∨ ∃ (p : Addr) (z o : Str), v = .ref p ∧ H' p = some (.tup [.str z, .str o]) ∧ z ∈ F ∧ o ∈ F ∧ s.1 z = s.1 o ∧ z.cps.toList < o.cps.toList) → Same H H' → Q v H'
def spShrunkBar (CF C : Addr) : Sp := fun vs H Q _ => ∃ (t : Addr) (cells : List (List Int)) (fs : List (Option Str)), vs = [.ref t] ∧ TabX CF C H t cells fs ∧
  ∀ (v : V) (F : List Str) (s : StS) (H' : Hp), RunEnd cells fs F s → ((ApartX F s.1 ∧ v = .non) ∨ ∃ (p l : Addr) (ys : List V) (z o : Str), v = .ref p ∧ H' p = some (.tup [.ref l, .str z, .str o]) ∧ H' l = some (.lst ys) ∧ H l = none ∧ Stks H' ys s.2 ∧ z ∈ F ∧ o ∈ F ∧ s.1 z = s.1 o ∧ z.cps.toList < o.cps.toList) → Same H H' → Q v H'
end Xci

namespace Xci
open PySem L2
open Classical in
theorem reachB_iff' {rows : List (List Int × Str)} {y z : Str} : reachB rows y z = true ↔ Reach rows y z := by
  unfold reachB
  exact decide_eq_true_iff
/-! what is made is made with a cell open, too -/
def Trap {α : Type} (R : α → α → Bool) (S : List α) : Prop := S ≠ [] ∧ ∀ z ∈ S, ∃ o ∈ S, R z o = true
theorem stand_trap {α : Type} [DecidableEq α] (R : α → α → Bool) : ∀ (n : Nat) (L : List α), L.length ≤ n → (stand R n L = true ↔ ∀ S : List α, (∀ z ∈ S, z ∈ L) → ¬ Trap R S)
  | 0, L, h => by
    have : L = [] := List.length_eq_zero_iff.mp (by omega)
    subst this
    refine ⟨fun _ S sub t => t.1 ?_, fun _ => rfl⟩
    cases S with
    | nil => rfl
    | cons a r => exact absurd (sub a List.mem_cons_self) (by simp)
  | n + 1, L, h => by
    show (if L = [] then true else if _ then false else _) = true ↔ _
    by_cases e : L = []
    · subst e
      rw [if_pos rfl]
      refine ⟨fun _ S sub t => t.1 ?_, fun _ => rfl⟩
      cases S with
      | nil => rfl
      | cons a r => exact absurd (sub a List.mem_cons_self) (by simp)
    rw [if_neg e]
    have le := List.length_filter_le (fun z => L.any fun o => R z o) L
    by_cases q : (L.filter fun z => L.any fun o => R z o).length = L.length
    · rw [if_pos q]
      constructor
      · intro h
        cases h
      · intro no
        have t : Trap R L := ⟨e, fun z hz => by
          have all := List.length_filter_eq_length_iff.mp q
          obtain ⟨o, ho, r⟩ := List.any_eq_true.mp (all z hz)
          exact ⟨o, ho, r⟩⟩
        exact absurd t (no L fun z h => h)
    · rw [if_neg q, stand_trap R n _ (by omega)]
      constructor
      · intro no S sub t
        refine no S (fun z hz => List.mem_filter.mpr ⟨sub z hz, ?_⟩) t
        obtain ⟨o, ho, r⟩ := t.2 z hz
        exact List.any_eq_true.mpr ⟨o, sub o ho, r⟩
      · intro no S sub t
        exact no S (fun z hz => (List.mem_filter.mp (sub z hz)).1) t
theorem names_of (rows : List (List Int × Str)) : Names rows (rows.map (·.2)).eraseDups :=
  ⟨nodup_dups _ _ (Nat.le_refl _), fun z => by
    rw [List.mem_eraseDups, List.mem_map]
    exact ⟨fun ⟨r, hr, e⟩ => ⟨r, hr, e⟩, fun ⟨r, hr, e⟩ => ⟨r, hr, e⟩⟩⟩
/-- the greatest still marks -/
theorem some_end (rows : List (List Int × Str)) : ∃ h : Str → Int → Prop, Under rows h ∧ Still rows h := by
  refine ⟨fun z m => ∃ g : Str → Int → Prop, Still rows g ∧ (∀ z, Named rows z → ∀ m, g z m → Shared0 rows z m) ∧ g z m, ⟨fun z n m ⟨g, _, b, q⟩ => b z n m q, fun g st b z n m q => ⟨g, st, b, q⟩⟩, fun z n r hr w m ⟨g, st, b, q⟩ => ⟨g, st, b, st z n r hr (fun k hk => w k ⟨g, st, b, hk⟩) m q⟩⟩
open Classical in
theorem made_less {rows rows' : List (List Int × Str)} {man : Str} (sub : ∀ r ∈ rows, r ∈ rows') (nm : ∀ z, Named rows' z → Named rows z) (h : madeB man rows' = true) : madeB man rows = true := by
  have low : ∀ z m, Shared0 rows' z m → Shared0 rows z m := fun z m q r hr e => q r (sub r hr) e
  have nm' : ∀ z, Named rows z → Named rows' z := fun z ⟨r, hr, e⟩ => ⟨r, sub r hr, e⟩
  by_cases e : man = "row"
  · subst e
    have N := names_of rows
    have N' := names_of rows'
    rw [made_row N.nd N.mem (Nat.le_refl _), stand_trap _ _ _ (Nat.le_refl _)]
    rw [made_row N'.nd N'.mem (Nat.le_refl _), stand_trap _ _ _ (Nat.le_refl _)] at h
    refine fun S sb t => h S (fun z hz => (N'.mem z).mpr (nm' z ((N.mem z).mp (sb z hz)))) ⟨t.1, fun z hz => ?_⟩
    obtain ⟨o, ho, q⟩ := t.2 z hz
    obtain ⟨ne, r, hr, er, w⟩ := reachB_iff'.mp q
    exact ⟨o, ho, reachB_iff'.mpr ⟨ne, r, sub r hr, er, fun m hm => w m (low z m hm)⟩⟩
  · unfold madeB at h ⊢
    rw [if_neg e, decide_eq_true_iff] at h ⊢
    obtain ⟨g, U', S', A⟩ := h
    obtain ⟨f, U, S⟩ := some_end rows
    refine ⟨f, U, S, fun y z ny nz eq => ?_⟩
    have gf := U.top g (fun z n r hr w m q => S' z (nm' z n) r (sub r hr) w m q) fun z n m q => low z m (U'.low z (nm' z n) m q)
    have half : ∀ y z, Named rows y → Named rows z → (∀ m, f y m ↔ f z m) → ∀ m, g z m → g y m := fun y z ny nz eq m q => by
      obtain ⟨r, hr, er⟩ := ny
      have := S' z (nm' z nz) r (sub r hr) (fun k hk => U.low y ⟨r, hr, er⟩ k ((eq k).mpr (gf z nz k hk)) r hr er) m q
      rw [er] at this
      exact this
    exact A y z (nm' y ny) (nm' z nz) fun m => ⟨half z y nz ny (fun k => (eq k).symm) m, half y z ny nz eq m⟩
end Xci

namespace Xci
open PySem L2
/-! ### a table is made just where some plain book of lots speaks its forms -/
def fitsE (es : List Ent) (c : List Int) : List Ent := es.filter fun e => inside e.1 c
/-- the entries with marks strictly within e's -/
def lessE (fs : List Ent) (e : Ent) : List Ent := fs.filter fun o => inside o.1 e.1 && decide (o.1 ≠ e.1)
def topE (fs : List Ent) : Option Ent := fs.find? fun e => decide ((lessE fs e).length + 1 = fs.length)
def speaksX (man : Str) (es : List Ent) (c : List Int) : Option Str := if man = "row" then (fitsE es c).head?.map (·.2) else (topE (fitsE es c)).map (·.2)
/-- rows of entries, an entry for each name, lots from every -/
def IsBook (F : List Str) (every : List (List Int)) (bs : List Ent) : Prop := bs.map (·.2) = F ∧ ∀ e ∈ bs, e.1 ∈ every
def IsOrder (bs row : List Ent) : Prop := row.Nodup ∧ row.length = bs.length ∧ ∀ e ∈ row, e ∈ bs
def Speaks (man : Str) (rows : List (List Int × Str)) (es : List Ent) : Prop := ∀ r ∈ rows, speaksX man es r.1 = some r.2
theorem lots_of {ns ms : List Int} : ms.Sublist ns → ms ∈ lots ns := by
  refine snoc_ind (M := fun ns => ∀ ms : List Int, ms.Sublist ns → ms ∈ lots ns) (fun ms h => ?_) (fun l x ih ms h => ?_) ns ms
  · rw [List.sublist_nil.mp h]; exact List.mem_singleton.mpr rfl
  · rw [lots_snoc]
    obtain ⟨a, b, rfl, ha, hb⟩ := List.sublist_append_iff.mp h
    rcases List.sublist_cons_iff.mp hb with hb | ⟨r, rfl, hr⟩
    · rw [List.sublist_nil.mp hb, List.append_nil]
      exact List.mem_append_left _ (ih a ha)
    · rw [List.sublist_nil.mp hr]
      exact List.mem_append_right _ (List.mem_map.mpr ⟨a, ih a ha, rfl⟩)
theorem first_of {α : Type} {p : α → Prop} : ∀ {l : List α}, (∃ x ∈ l, p x) → ∃ l1 x l2, l = l1 ++ x :: l2 ∧ p x ∧ ∀ y ∈ l1, ¬ p y
  | [], ⟨_, h, _⟩ => by cases h
  | a :: r, h => by
    by_cases pa : p a
    · exact ⟨[], a, r, rfl, pa, nofun⟩
    · have : ∃ x ∈ r, p x := by
        obtain ⟨x, hx, px⟩ := h
        rcases List.mem_cons.mp hx with e | hx
        · exact absurd (e ▸ px) pa
        · exact ⟨x, hx, px⟩
      obtain ⟨l1, x, l2, rfl, px, no⟩ := first_of this
      exact ⟨a :: l1, x, l2, rfl, px, fun y hy => (List.mem_cons.mp hy).elim (fun e => e ▸ pa) (no y)⟩
/-- names that can stand in a row, in an order -/
theorem order_ex {R : Str → Str → Bool} : ∀ (n : Nat) (L : List Str), L.length = n → L.Nodup → (∀ S : List Str, (∀ z ∈ S, z ∈ L) → ¬ Trap R S) → ∃ L' : List Str, L'.Perm L ∧ L'.Pairwise fun y z => R y z = false
  | 0, L, h, _, _ => ⟨[], by rw [List.length_eq_zero_iff.mp h], .nil⟩
  | n + 1, L, h, nd, no => by
    have ne : L ≠ [] := fun e => by rw [e] at h; cases h
    obtain ⟨z, hz, free⟩ : ∃ z ∈ L, ∀ o ∈ L, R z o = false := by
      apply Classical.byContradiction
      intro q
      refine no L (fun z h => h) ⟨ne, fun z hz => ?_⟩
      apply Classical.byContradiction
      intro q2
      exact q ⟨z, hz, fun o ho => by
        cases e : R z o with
        | false => rfl
        | true => exact absurd ⟨o, ho, e⟩ q2⟩
    have le : (L.erase z).length = n := by rw [List.length_erase_of_mem hz, h]; rfl
    obtain ⟨L', p, pw⟩ := order_ex n (L.erase z) le (nd.erase z) fun S sub => no S fun y hy => List.mem_of_mem_erase (sub y hy)
    exact ⟨z :: L', (List.perm_cons_erase hz).symm.trans (.refl _) |> fun q => (p.cons z).trans q, List.pairwise_cons.mpr ⟨fun y hy => free y (List.mem_of_mem_erase (p.subset hy)), pw⟩⟩
section
variable {rows : List (List Int × Str)} {F : List Str} {n : Int} {every : List (List Int)}
open Classical in
noncomputable def lotOf (n : Int) (h : Str → Int → Prop) (z : Str) : List Int := (rng n).filter fun m => decide (h z m)
open Classical in
theorem lotOf_mem {h : Str → Int → Prop} {z : Str} {m : Int} (b : ∀ m, h z m → m ∈ rng n) : m ∈ lotOf n h z ↔ h z m := by
  unfold lotOf
  rw [List.mem_filter, decide_eq_true_iff]
  exact ⟨fun q => q.2, fun q => ⟨b m q, q⟩⟩
theorem lotOf_in (ev : ∀ l, l ∈ lots (rng n) → l ∈ every) (h : Str → Int → Prop) (z : Str) : lotOf n h z ∈ every := ev _ (lots_of List.filter_sublist)
noncomputable def bookOf (n : Int) (h : Str → Int → Prop) (L : List Str) : List Ent := L.map fun z => (lotOf n h z, z)
theorem bookOf_is (ev : ∀ l, l ∈ lots (rng n) → l ∈ every) (h : Str → Int → Prop) (F : List Str) : IsBook F every (bookOf n h F) := by
  refine ⟨?_, fun e he => ?_⟩
  · unfold bookOf
    rw [List.map_map]
    exact List.map_id F
  · obtain ⟨z, _, rfl⟩ := List.mem_map.mp he
    exact lotOf_in ev h z
theorem nodup_snd {es : List Ent} (h : (es.map (·.2)).Nodup) : es.Nodup := List.Pairwise.of_map (·.2) (fun a b ne e => ne (by rw [e])) h
theorem one_name {es : List Ent} (h : (es.map (·.2)).Nodup) {a b : Ent} (ha : a ∈ es) (hb : b ∈ es) (e : a.2 = b.2) : a = b := by
  induction es with
  | nil => cases ha
  | cons x r ih =>
    rw [List.map_cons, List.nodup_cons] at h
    rcases List.mem_cons.mp ha with q | q <;> rcases List.mem_cons.mp hb with q' | q'
    · rw [q, q']
    · exact absurd (List.mem_map.mpr ⟨b, q', by rw [← e, q]⟩) h.1
    · exact absurd (List.mem_map.mpr ⟨a, q, by rw [e, q']⟩) h.1
    · exact ih h.2 q q'
theorem find_nth {α : Type} {B : α → Bool} : ∀ {cs : List α} {i : Nat} {r : α}, cs[i]? = some r → B r = true → (∀ i' < i, ∀ r', cs[i']? = some r' → B r' = false) → cs.find? B = some r
  | [], _, _, h, _, _ => by cases h
  | x :: t, 0, r, h, hb, _ => by
    obtain rfl : x = r := Option.some.inj h
    rw [List.find?_cons_of_pos hb]
  | x :: t, i + 1, r, h, hb, no => by
    rw [List.find?_cons_of_neg (by rw [no 0 (Nat.zero_lt_succ _) x rfl]; decide)]
    exact find_nth (i := i) h hb fun i' hi' r' h' => no (i' + 1) (by omega) r' h'
theorem find_no {α : Type} {B : α → Bool} {cs : List α} (no : ∀ (i : Nat) (r : α), cs[i]? = some r → B r = false) : cs.find? B = none := by
  rw [List.find?_eq_none]
  intro x hx
  obtain ⟨i, hi⟩ := List.mem_iff_getElem?.mp hx
  rw [no i x hi]; decide
/-! in a row -/
theorem row_of_made (N : Names rows F) (cl : ∀ r ∈ rows, ∀ m ∈ r.1, m ∈ rng n) (made : madeB "row" rows = true) (ev : ∀ l, l ∈ lots (rng n) → l ∈ every) :
    ∃ bs row, IsBook F every bs ∧ IsOrder bs row ∧ Speaks "row" rows row := by
  rw [made_row N.nd N.mem (Nat.le_refl _), stand_trap _ _ _ (Nat.le_refl _)] at made
  obtain ⟨L, pL, pw⟩ := order_ex _ F rfl N.nd made
  have b : ∀ z, Named rows z → ∀ m, Shared0 rows z m → m ∈ rng n := fun z ⟨r, hr, e⟩ m q => cl r hr m (q r hr e)
  have ndL : L.Nodup := pL.nodup_iff.mpr N.nd
  have inj : ∀ a b : Str, (lotOf n (Shared0 rows) a, a) = (lotOf n (Shared0 rows) b, b) → a = b := fun a b e => congrArg (·.2) e
  refine ⟨bookOf n (Shared0 rows) F, bookOf n (Shared0 rows) L, bookOf_is ev _ F, ⟨List.Pairwise.map _ (fun a b ne e => ne (inj a b e)) ndL, by unfold bookOf; rw [List.length_map, List.length_map]; exact pL.length_eq, fun e he => ?_⟩, fun r hr => ?_⟩
  · obtain ⟨z, hz, rfl⟩ := List.mem_map.mp he
    exact List.mem_map.mpr ⟨z, pL.subset hz, rfl⟩
  · have nz : Named rows r.2 := ⟨r, hr, rfl⟩
    obtain ⟨L1, L2, e⟩ := List.append_of_mem (pL.mem_iff.mpr ((N.mem _).mpr nz))
    have own : inside (lotOf n (Shared0 rows) r.2) r.1 = true := inside_of fun m hm => (lotOf_mem (b _ nz)).mp hm r hr rfl
    have none1 : fitsE (bookOf n (Shared0 rows) L1) r.1 = [] := by
      unfold fitsE bookOf
      rw [List.filter_eq_nil_iff]
      intro x hx q
      obtain ⟨y, hy, rfl⟩ := List.mem_map.mp hx
      have ny : Named rows y := (N.mem y).mp (pL.subset (by rw [e]; exact List.mem_append_left _ hy))
      have ryz : reachB rows y r.2 = false := by
        rw [e] at pw
        exact (List.pairwise_append.mp pw).2.2 y hy r.2 List.mem_cons_self
      have ne : y ≠ r.2 := fun z => by
        rw [e] at ndL
        exact (List.nodup_append.mp ndL).2.2 y hy r.2 List.mem_cons_self z
      have := reachB_iff'.mpr ⟨ne, r, hr, rfl, fun m hm => inside_mem q m ((lotOf_mem (b y ny)).mpr hm)⟩
      rw [ryz] at this
      cases this
    unfold speaksX
    rw [if_pos rfl, e]
    have ef : fitsE (bookOf n (Shared0 rows) (L1 ++ r.2 :: L2)) r.1 = (lotOf n (Shared0 rows) r.2, r.2) :: fitsE (bookOf n (Shared0 rows) L2) r.1 := by
      unfold fitsE bookOf at none1 ⊢
      rw [List.map_append, List.filter_append, none1, List.map_cons, List.filter_cons_of_pos (p := fun e : Ent => inside e.1 r.1) (a := (lotOf n (Shared0 rows) r.2, r.2)) own]
      rfl
    rw [ef]
    rfl
theorem order_names {bs row : List Ent} (ib : IsBook F every bs) (nd : F.Nodup) (io : IsOrder bs row) : (row.map (·.2)).Nodup ∧ ∀ z ∈ F, ∃ e ∈ row, e.2 = z := by
  have nb : (bs.map (·.2)).Nodup := by rw [ib.1]; exact nd
  have nr : (row.map (·.2)).Nodup := List.pairwise_map.mpr (io.1.imp_of_mem fun ha hb ne e => ne (one_name nb (io.2.2 _ ha) (io.2.2 _ hb) e))
  refine ⟨nr, fun z hz => ?_⟩
  apply Classical.byContradiction
  intro q
  have nz : z ∉ row.map (·.2) := fun h => by
    obtain ⟨e, he, ez⟩ := List.mem_map.mp h
    exact q ⟨e, he, ez⟩
  have := List.Nodup.length_le_of_subset (l₁ := z :: row.map (·.2)) (l₂ := F) (List.nodup_cons.mpr ⟨nz, nr⟩) fun y hy => by
    rcases List.mem_cons.mp hy with h | h
    · rw [h]; exact hz
    · obtain ⟨e, he, rfl⟩ := List.mem_map.mp h
      rw [← ib.1]
      exact List.mem_map.mpr ⟨e, io.2.2 e he, rfl⟩
  rw [List.length_cons, List.length_map, io.2.1, ← ib.1, List.length_map] at this
  omega
theorem head_split {es : List Ent} {c : List Int} {x : Ent} (h : (fitsE es c).head? = some x) : x ∈ es ∧ inside x.1 c = true := by
  have := List.mem_of_head? h
  exact List.mem_filter.mp this
theorem made_of_row {bs row : List Ent} (N : Names rows F) (ib : IsBook F every bs) (io : IsOrder bs row) (sp : Speaks "row" rows row) : madeB "row" rows = true := by
  rw [made_row N.nd N.mem (Nat.le_refl _), stand_trap _ _ _ (Nat.le_refl _)]
  rintro S sub ⟨ne, tr⟩
  obtain ⟨nd, all⟩ := order_names ib N.nd io
  have sp' : ∀ r ∈ rows, ∃ x, (fitsE row r.1).head? = some x ∧ x.2 = r.2 := fun r hr => by
    have := sp r hr
    unfold speaksX at this
    rw [if_pos rfl] at this
    exact Option.map_eq_some_iff.mp this
  obtain ⟨s, hs⟩ := List.exists_mem_of_ne_nil S ne
  obtain ⟨e0, he0, es0⟩ := all s (sub s hs)
  obtain ⟨R1, e, R2, er, heS, no⟩ := first_of (p := fun x : Ent => x.2 ∈ S) ⟨e0, he0, by rw [es0]; exact hs⟩
  have her : e ∈ row := by rw [er]; exact List.mem_append_right _ List.mem_cons_self
  obtain ⟨o, ho, q⟩ := tr e.2 heS
  obtain ⟨neo, r, hr, ero, w⟩ := reachB_iff'.mp q
  have fit : inside e.1 r.1 = true := inside_of fun m hm => w m fun r' hr' e' => by
    obtain ⟨x, hx, ex⟩ := sp' r' hr'
    obtain ⟨hxr, fx⟩ := head_split hx
    have : x = e := one_name nd hxr her (by rw [ex, e'])
    rw [this] at fx
    exact inside_mem fx m hm
  obtain ⟨x, hx, ex⟩ := sp' r hr
  have ef : fitsE row r.1 = fitsE R1 r.1 ++ e :: fitsE R2 r.1 := by
    unfold fitsE
    rw [er, List.filter_append, List.filter_cons_of_pos (p := fun x : Ent => inside x.1 r.1) (a := e) fit]
  rw [ef] at hx
  cases h1 : fitsE R1 r.1 with
  | nil =>
    rw [h1] at hx
    obtain rfl : e = x := Option.some.inj hx
    exact neo (by rw [ex, ero])
  | cons y t =>
    rw [h1] at hx
    obtain rfl : y = x := Option.some.inj hx
    have : y ∈ R1 := (List.mem_filter.mp (show y ∈ fitsE R1 r.1 by rw [h1]; exact List.mem_cons_self)).1
    exact no y this (by rw [ex, ero]; exact ho)
/-! who holds all others -/
theorem less_all {fs : List Ent} {e : Ent} (nd : fs.Nodup) (he : e ∈ fs) : (lessE fs e).length + 1 = fs.length ↔ ∀ o ∈ fs, o ≠ e → inside o.1 e.1 = true ∧ o.1 ≠ e.1 := by
  obtain ⟨l1, l2, rfl⟩ := List.append_of_mem he
  have pe : (inside e.1 e.1 && decide (e.1 ≠ e.1)) = false := by simp
  have el : lessE (l1 ++ e :: l2) e = l1.filter (fun o => inside o.1 e.1 && decide (o.1 ≠ e.1)) ++ l2.filter (fun o => inside o.1 e.1 && decide (o.1 ≠ e.1)) := by
    unfold lessE
    rw [List.filter_append, List.filter_cons_of_neg (by rw [pe]; decide)]
  have a1 := List.length_filter_le (fun o : Ent => inside o.1 e.1 && decide (o.1 ≠ e.1)) l1
  have a2 := List.length_filter_le (fun o : Ent => inside o.1 e.1 && decide (o.1 ≠ e.1)) l2
  rw [el, List.length_append, List.length_append, List.length_cons]
  obtain ⟨_, nd2, dj⟩ := List.nodup_append.mp nd
  have e2 : e ∉ l2 := (List.nodup_cons.mp nd2).1
  constructor
  · intro h o ho ne
    have q1 := (List.length_filter_eq_length_iff (p := fun o : Ent => inside o.1 e.1 && decide (o.1 ≠ e.1)) (l := l1)).mp (by omega)
    have q2 := (List.length_filter_eq_length_iff (p := fun o : Ent => inside o.1 e.1 && decide (o.1 ≠ e.1)) (l := l2)).mp (by omega)
    have : (inside o.1 e.1 && decide (o.1 ≠ e.1)) = true := by
      rcases List.mem_append.mp ho with z | z
      · exact q1 o z
      · rcases List.mem_cons.mp z with z | z
        · exact absurd z ne
        · exact q2 o z
    rw [Bool.and_eq_true, decide_eq_true_iff] at this
    exact this
  · intro h
    have q1 : (l1.filter fun o => inside o.1 e.1 && decide (o.1 ≠ e.1)).length = l1.length := List.length_filter_eq_length_iff.mpr fun o ho => by
      have := h o (List.mem_append_left _ ho) fun z => dj o ho e List.mem_cons_self z
      rw [Bool.and_eq_true, decide_eq_true_iff]
      exact this
    have q2 : (l2.filter fun o => inside o.1 e.1 && decide (o.1 ≠ e.1)).length = l2.length := List.length_filter_eq_length_iff.mpr fun o ho => by
      have := h o (List.mem_append_right _ (List.mem_cons_of_mem _ ho)) fun z => e2 (z ▸ ho)
      rw [Bool.and_eq_true, decide_eq_true_iff]
      exact this
    omega
open Classical in
theorem within_of_made (N : Names rows F) (cl : ∀ r ∈ rows, ∀ m ∈ r.1, m ∈ rng n) (made : madeB "within" rows = true) (ev : ∀ l, l ∈ lots (rng n) → l ∈ every) :
    ∃ bs, IsBook F every bs ∧ Speaks "within" rows bs := by
  have nr : ¬ ("within" : Str) = "row" := by decide +kernel
  unfold madeB at made
  rw [if_neg nr, decide_eq_true_iff] at made
  obtain ⟨h, U, S, A⟩ := made
  have b : ∀ z, Named rows z → ∀ m, h z m → m ∈ rng n := fun z ⟨r, hr, e⟩ m q => cl r hr m (U.low z ⟨r, hr, e⟩ m q r hr e)
  refine ⟨bookOf n h F, bookOf_is ev h F, fun r hr => ?_⟩
  have nz : Named rows r.2 := ⟨r, hr, rfl⟩
  have nb : ((bookOf n h F).map (·.2)).Nodup := by rw [(bookOf_is ev h F).1]; exact N.nd
  have own : inside (lotOf n h r.2) r.1 = true := inside_of fun m hm => U.low _ nz m ((lotOf_mem (b _ nz)).mp hm) r hr rfl
  have me : (lotOf n h r.2, r.2) ∈ fitsE (bookOf n h F) r.1 := List.mem_filter.mpr ⟨List.mem_map.mpr ⟨r.2, (N.mem _).mpr nz, rfl⟩, own⟩
  have nf : (fitsE (bookOf n h F) r.1).Nodup := (nodup_snd nb).sublist List.filter_sublist
  have below : ∀ o ∈ fitsE (bookOf n h F) r.1, o ≠ (lotOf n h r.2, r.2) → inside o.1 (lotOf n h r.2) = true ∧ o.1 ≠ lotOf n h r.2 := fun o ho ne => by
    obtain ⟨hb, fo⟩ := List.mem_filter.mp ho
    obtain ⟨y, hy, rfl⟩ := List.mem_map.mp hb
    have ny := (N.mem y).mp hy
    have st := S y ny r hr fun m hm => inside_mem fo m ((lotOf_mem (b y ny)).mpr hm)
    refine ⟨inside_of fun m hm => (lotOf_mem (b _ nz)).mpr (st m ((lotOf_mem (b y ny)).mp hm)), fun e => ?_⟩
    have e : lotOf n h y = lotOf n h r.2 := e
    have : y = r.2 := A y r.2 ny nz fun m => by rw [← lotOf_mem (b y ny), ← lotOf_mem (b _ nz), e]
    exact ne (by rw [this])
  have top : topE (fitsE (bookOf n h F) r.1) = some (lotOf n h r.2, r.2) := by
    unfold topE
    cases hf : (fitsE (bookOf n h F) r.1).find? fun e => decide ((lessE (fitsE (bookOf n h F) r.1) e).length + 1 = (fitsE (bookOf n h F) r.1).length) with
    | none => exact absurd (decide_eq_true ((less_all nf me).mpr below)) (List.find?_eq_none.mp hf _ me)
    | some e' =>
      have ce := List.find?_some hf
      have he' := List.mem_of_find?_eq_some hf
      have all' := (less_all nf he').mp (of_decide_eq_true ce)
      apply Classical.byContradiction
      intro ne
      have ne' : e' ≠ (lotOf n h r.2, r.2) := fun z => ne (by rw [z])
      obtain ⟨i1, i2⟩ := below e' he' ne'
      obtain ⟨j1, j2⟩ := all' _ me (Ne.symm ne')
      obtain ⟨y, hy, rfl⟩ := List.mem_map.mp (List.mem_filter.mp he').1
      have ny := (N.mem y).mp hy
      have : y = r.2 := A y r.2 ny nz fun m => by
        rw [← lotOf_mem (b y ny), ← lotOf_mem (b _ nz)]
        exact ⟨inside_mem i1 m, inside_mem j1 m⟩
      exact ne' (by rw [this])
  unfold speaksX
  rw [if_neg nr, top]
  rfl
open Classical in
theorem made_of_within {bs : List Ent} (N : Names rows F) (asc : ∀ l ∈ every, l.Pairwise (· < ·)) (ib : IsBook F every bs) (sp : Speaks "within" rows bs) : madeB "within" rows = true := by
  have nr : ¬ ("within" : Str) = "row" := by decide +kernel
  have nb : (bs.map (·.2)).Nodup := by rw [ib.1]; exact N.nd
  have top : ∀ r ∈ rows, ∃ e ∈ bs, e.2 = r.2 ∧ inside e.1 r.1 = true ∧ ∀ o ∈ bs, inside o.1 r.1 = true → o ≠ e → inside o.1 e.1 = true ∧ o.1 ≠ e.1 := fun r hr => by
    have := sp r hr
    unfold speaksX at this
    rw [if_neg nr] at this
    obtain ⟨e, he, e2⟩ := Option.map_eq_some_iff.mp this
    unfold topE at he
    have hm := List.mem_of_find?_eq_some he
    have nf : (fitsE bs r.1).Nodup := (nodup_snd nb).sublist List.filter_sublist
    have ce := List.find?_some he
    have all := (less_all nf hm).mp (of_decide_eq_true ce)
    obtain ⟨hb, fe⟩ := List.mem_filter.mp hm
    exact ⟨e, hb, e2, fe, fun o ho fo ne => all o (List.mem_filter.mpr ⟨ho, fo⟩) ne⟩
  have g : ∀ z m, (∃ e ∈ bs, e.2 = z ∧ m ∈ e.1) → True := fun _ _ _ => trivial
  let G : Str → Int → Prop := fun z m => ∃ e ∈ bs, e.2 = z ∧ m ∈ e.1
  have Gof : ∀ {e : Ent}, e ∈ bs → ∀ m, G e.2 m ↔ m ∈ e.1 := fun he m => ⟨fun ⟨e', he', e2, hm⟩ => by rw [← one_name nb he' he e2]; exact hm, fun hm => ⟨_, he, rfl, hm⟩⟩
  have Gst : Still rows G := fun z nz r hr w m hm => by
    obtain ⟨e', he', e2, hme⟩ := hm
    obtain ⟨e, he, ez, fe, all⟩ := top r hr
    subst e2
    rw [← ez, Gof he]
    by_cases q : e' = e
    · rw [← q]; exact hme
    · exact inside_mem (all e' he' (inside_of fun k hk => w k ((Gof he' k).mpr hk)) q).1 m hme
  have Glow : ∀ z, Named rows z → ∀ m, G z m → Shared0 rows z m := fun z nz m ⟨e', he', e2, hme⟩ r hr er => by
    obtain ⟨e, he, ez, fe, all⟩ := top r hr
    have : e' = e := one_name nb he' he (by rw [e2, ez, er])
    subst this
    exact inside_mem fe m hme
  obtain ⟨f, U, S⟩ := some_end rows
  have gf := U.top G Gst Glow
  have half : ∀ y z, Named rows y → Named rows z → (∀ m, f y m ↔ f z m) → ∀ m, G z m → G y m := fun y z ny nz eq m q => by
    obtain ⟨r, hr, er⟩ := ny
    have := Gst z nz r hr (fun k hk => U.low y ⟨r, hr, er⟩ k ((eq k).mpr (gf z nz k hk)) r hr er) m q
    rw [er] at this
    exact this
  unfold madeB
  rw [if_neg nr, decide_eq_true_iff]
  refine ⟨f, U, S, fun y z ny nz eq => ?_⟩
  have gy := half y z ny nz eq
  have gz := half z y nz ny fun m => (eq m).symm
  apply Classical.byContradiction
  intro ne
  obtain ⟨r, hr, er⟩ := nz
  obtain ⟨e, he, ez, fe, all⟩ := top r hr
  have hy : y ∈ bs.map (·.2) := by rw [ib.1]; exact (N.mem y).mpr ny
  obtain ⟨e', he', ey⟩ := List.mem_map.mp hy
  have same : ∀ m, m ∈ e'.1 ↔ m ∈ e.1 := fun m => by
    rw [← Gof he', ← Gof he, ey, ez, er]
    exact ⟨gz m, gy m⟩
  have neq : e' ≠ e := fun q => ne (by rw [← ey, q, ez, er])
  have := all e' he' (inside_of fun m hm => inside_mem fe m ((same m).mp hm)) neq
  have u1 := asc _ (ib.2 e' he')
  have u2 := asc _ (ib.2 e he)
  have l1 := asc_sub_len u2 u1 fun m hm => (same m).mp hm
  have l2 := asc_sub_len u1 u2 fun m hm => (same m).mpr hm
  exact this.2 (asc_sub_eq u2 u1 (fun m hm => (same m).mp hm) (by omega))
end
end Xci

namespace Xci
open PySem L2
/-! ### plain books by holding, as the law looks them up -/
def underE (fits : List Ent) (ms : List Int) : List Ent := fits.filter fun o => decide (o.1.length < ms.length) && inside o.1 ms
def holderC (fits : List Ent) (e : Ent) : Bool := decide ((underE fits e.1).length + 1 = fits.length)
def holderX (es : List Ent) (c : List Int) : Option Str := ((fitsE es c).find? (holderC (fitsE es c))).map (·.2)
def withinMk (rows : List (List Int × Str)) (es : List Ent) : Bool := rows.all fun r => decide (holderX es r.1 = some r.2)
/-- rows of one from each, the first one's items outermost -/
def choices {α : Type} (ls : List (List α)) : List (List α) := ls.foldl (fun found things => found.flatMap fun row => things.map fun x => row ++ [x]) [[]]
theorem choices_snoc {α : Type} (ls : List (List α)) (l : List α) : choices (ls ++ [l]) = (choices ls).flatMap fun row => l.map fun x => row ++ [x] := by
  unfold choices
  rw [List.foldl_append]
  rfl
theorem choices_mem {α : Type} (ls : List (List α)) : ∀ row : List α, row ∈ choices ls ↔ Paired (fun x l => x ∈ l) row ls := by
  refine snoc_ind (M := fun ls => ∀ row : List α, row ∈ choices ls ↔ Paired (fun x l => x ∈ l) row ls) (fun row => ?_) (fun l x ih row => ?_) ls
  · show row ∈ [[]] ↔ _
    rw [List.mem_singleton]
    constructor
    · rintro rfl; exact .nil
    · intro h; cases h; rfl
  · rw [choices_snoc, List.mem_flatMap]
    constructor
    · rintro ⟨r, hr, h⟩
      obtain ⟨y, hy, rfl⟩ := List.mem_map.mp h
      exact Paired.app ((ih r).mp hr) (Paired.one hy)
    · intro h
      have len := Paired.length h
      rw [List.length_append, List.length_singleton] at len
      obtain ⟨r, y, rfl⟩ : ∃ r y, row = r ++ [y] := by
        rcases List.eq_nil_or_concat row with e | ⟨r, y, e⟩
        · rw [e] at len; cases len
        · exact ⟨r, y, by rw [e, List.concat_eq_append]⟩
      have lr : r.length = l.length := by rw [List.length_append, List.length_singleton] at len; omega
      have h1 : Paired (fun x l => x ∈ l) r l := by
        have := Paired.take r.length h
        rw [List.take_left, lr, List.take_left] at this
        exact this
      have hy : y ∈ x := by
        obtain ⟨z, hz, hm⟩ := Paired.get h (i := r.length) (x := y) (by simp)
        rw [lr] at hz
        simp at hz
        rw [hz]
        exact hm
      exact ⟨r, (ih r).mpr h1, List.mem_map.mpr ⟨y, hy, rfl⟩⟩
theorem flat_len {α β : Type} {f : α → List β} {n : Nat} (h : ∀ a, (f a).length ≤ n) : ∀ l : List α, (l.flatMap f).length ≤ l.length * n
  | [] => by simp
  | a :: r => by
    rw [List.flatMap_cons, List.length_append, List.length_cons, Nat.succ_mul]
    have := flat_len h r
    have := h a
    omega
theorem choices_len {α : Type} {n : Nat} (ls : List (List α)) : (∀ l ∈ ls, l.length ≤ n) → (choices ls).length ≤ n ^ ls.length := by
  refine snoc_ind (M := fun ls => (∀ l ∈ ls, l.length ≤ n) → (choices ls).length ≤ n ^ ls.length) (fun _ => ?_) (fun l x ih h => ?_) ls
  · exact Nat.le_refl _
  · rw [choices_snoc, List.length_append, List.length_singleton, Nat.pow_succ]
    have := ih fun y hy => h y (List.mem_append_left _ hy)
    have hx := h x (List.mem_append_right _ List.mem_cons_self)
    refine Nat.le_trans (flat_len (n := n) (fun a => ?_) _) (Nat.mul_le_mul_right _ this)
    rw [List.length_map]
    exact hx
def booksW (rows : List (List Int × Str)) (F : List Str) : List (List Ent) := ((choices (F.map fun z => lots (commonL rows z))).map fun sets => sets.zip F).filter (withinMk rows)
/-- the one that holds all others -/
structure Tops (bs : List Ent) (c : List Int) (e : Ent) : Prop where
  mem : e ∈ bs
  fit : inside e.1 c = true
  all : ∀ o ∈ bs, inside o.1 c = true → o ≠ e → inside o.1 e.1 = true ∧ o.1.length < e.1.length
theorem all_but {α : Type} {fs : List α} {e : α} {p : α → Bool} (nd : fs.Nodup) (he : e ∈ fs) (pe : p e = false) : (fs.filter p).length + 1 = fs.length ↔ ∀ o ∈ fs, o ≠ e → p o = true := by
  obtain ⟨l1, l2, rfl⟩ := List.append_of_mem he
  have el : (l1 ++ e :: l2).filter p = l1.filter p ++ l2.filter p := by
    rw [List.filter_append, List.filter_cons_of_neg (by rw [pe]; decide)]
  have a1 := List.length_filter_le p l1
  have a2 := List.length_filter_le p l2
  rw [el, List.length_append, List.length_append, List.length_cons]
  obtain ⟨_, nd2, dj⟩ := List.nodup_append.mp nd
  have e2 : e ∉ l2 := (List.nodup_cons.mp nd2).1
  constructor
  · intro h o ho ne
    have q1 := (List.length_filter_eq_length_iff (p := p) (l := l1)).mp (by omega)
    have q2 := (List.length_filter_eq_length_iff (p := p) (l := l2)).mp (by omega)
    rcases List.mem_append.mp ho with z | z
    · exact q1 o z
    · rcases List.mem_cons.mp z with z | z
      · exact absurd z ne
      · exact q2 o z
  · intro h
    have q1 : (l1.filter p).length = l1.length := List.length_filter_eq_length_iff.mpr fun o ho => h o (List.mem_append_left _ ho) fun z => dj o ho e List.mem_cons_self z
    have q2 : (l2.filter p).length = l2.length := List.length_filter_eq_length_iff.mpr fun o ho => h o (List.mem_append_right _ (List.mem_cons_of_mem _ ho)) fun z => e2 (z ▸ ho)
    omega
theorem fitsE_mem {es : List Ent} {c : List Int} {e : Ent} : e ∈ fitsE es c ↔ e ∈ es ∧ inside e.1 c = true := by unfold fitsE; rw [List.mem_filter]
theorem holderC_iff {bs : List Ent} {c : List Int} {e : Ent} (nd : bs.Nodup) (he : e ∈ fitsE bs c) : holderC (fitsE bs c) e = true ↔ Tops bs c e := by
  have nf : (fitsE bs c).Nodup := nd.sublist List.filter_sublist
  unfold holderC underE
  rw [decide_eq_true_iff, all_but nf he (by simp)]
  obtain ⟨hm, hf⟩ := fitsE_mem.mp he
  constructor
  · intro h
    refine ⟨hm, hf, fun o ho fo ne => ?_⟩
    have := h o (fitsE_mem.mpr ⟨ho, fo⟩) ne
    rw [Bool.and_eq_true, decide_eq_true_iff] at this
    exact ⟨this.2, this.1⟩
  · intro t o ho ne
    obtain ⟨ho1, ho2⟩ := fitsE_mem.mp ho
    obtain ⟨a, b⟩ := t.all o ho1 ho2 ne
    rw [Bool.and_eq_true, decide_eq_true_iff]
    exact ⟨b, a⟩
theorem holder_tops {bs : List Ent} {c : List Int} {z : Str} (nd : bs.Nodup) (h : holderX bs c = some z) : ∃ e, Tops bs c e ∧ e.2 = z := by
  unfold holderX at h
  obtain ⟨e, he, ez⟩ := Option.map_eq_some_iff.mp h
  exact ⟨e, (holderC_iff nd (List.mem_of_find?_eq_some he)).mp (List.find?_some he), ez⟩
theorem Tops.one {bs : List Ent} {c : List Int} {e e' : Ent} (t : Tops bs c e) (t' : Tops bs c e') : e = e' := Classical.byContradiction fun ne => by
  have a := (t.all e' t'.mem t'.fit fun q => ne q.symm).2
  have b := (t'.all e t.mem t.fit ne).2
  omega
theorem tops_holder {bs : List Ent} {c : List Int} {e : Ent} (nd : bs.Nodup) (t : Tops bs c e) : holderX bs c = some e.2 := by
  have me : e ∈ fitsE bs c := fitsE_mem.mpr ⟨t.mem, t.fit⟩
  unfold holderX
  cases h : (fitsE bs c).find? (holderC (fitsE bs c)) with
  | none => exact absurd ((holderC_iff nd me).mpr t) (by simpa using List.find?_eq_none.mp h e me)
  | some e' =>
    have t' := (holderC_iff nd (List.mem_of_find?_eq_some h)).mp (List.find?_some h)
    rw [t.one t']
    rfl
theorem tops_heard {bs : List Ent} {c : List Int} {e : Ent} (ws : List Int) (nd : bs.Nodup) (t : Tops bs c e) : heard "within" ws bs c = some e.2 := by
  obtain ⟨j, hj⟩ := List.mem_iff_getElem?.mp t.mem
  have lt := (List.getElem?_eq_some_iff.mp hj).1
  have w : Win (fitN bs c) (beatA "within" ws bs) j := by
    refine ⟨List.mem_filter.mpr ⟨List.mem_range.mpr lt, by rw [fitP_at hj]; exact t.fit⟩, fun o ho ne => ?_⟩
    obtain ⟨lo, fo⟩ := List.mem_filter.mp ho
    have lo := List.mem_range.mp lo
    have eo : bs[o]? = some (bs[o]'lo) := List.getElem?_eq_getElem lo
    rw [fitP_at eo] at fo
    have neo : bs[o]'lo ≠ e := fun q => ne (nd_ix nd eo (by rw [hj, q]))
    obtain ⟨a, b⟩ := t.all _ (List.getElem_mem lo) fo neo
    unfold beatA
    rw [mkA_at hj, mkA_at eo]
    unfold beatM
    rw [if_pos rfl, a, decide_eq_true b]
    rfl
  have nr : ¬ ("within" : Str) = "row" := by decide +kernel
  have e1 : whoN "within" ws bs c = some j := by
    unfold whoN
    rw [if_neg nr, lawRes_ent (beatA_ok "within" ws bs) (fit_nd bs c) w]
  unfold heard
  rw [e1]
  show (bs[j]?).map (·.2) = some e.2
  rw [hj]
  rfl
section
variable {rows : List (List Int × Str)} {F : List Str}
open Classical in
/-- what makes by holding stays below where the strikes end, and then no two of these are alike -/
theorem within_below {bs : List Ent} {f : Str → Int → Prop} (N : Names rows F) (asc : ∀ e ∈ bs, e.1.Pairwise (· < ·)) (nm : bs.map (·.2) = F) (sp : withinMk rows bs = true) (U : Under rows f) (S : Still rows f) : (∀ e ∈ bs, ∀ m ∈ e.1, f e.2 m) ∧ Apart rows f := by
  have nb : (bs.map (·.2)).Nodup := by rw [nm]; exact N.nd
  have top : ∀ r ∈ rows, ∃ e, Tops bs r.1 e ∧ e.2 = r.2 := fun r hr => holder_tops (nodup_snd nb) (of_decide_eq_true (List.all_eq_true.mp sp r hr))
  let G : Str → Int → Prop := fun z m => ∃ e ∈ bs, e.2 = z ∧ m ∈ e.1
  have Gof : ∀ {e : Ent}, e ∈ bs → ∀ m, G e.2 m ↔ m ∈ e.1 := fun he m => ⟨fun ⟨e', he', e2, hm⟩ => by rw [← one_name nb he' he e2]; exact hm, fun hm => ⟨_, he, rfl, hm⟩⟩
  have Gst : Still rows G := fun z nz r hr w m hm => by
    obtain ⟨e', he', e2, hme⟩ := hm
    obtain ⟨e, t, ez⟩ := top r hr
    subst e2
    rw [← ez, Gof t.mem]
    by_cases q : e' = e
    · rw [← q]; exact hme
    · exact inside_mem (t.all e' he' (inside_of fun k hk => w k ((Gof he' k).mpr hk)) q).1 m hme
  have Glow : ∀ z, Named rows z → ∀ m, G z m → Shared0 rows z m := fun z nz m ⟨e', he', e2, hme⟩ r hr er => by
    obtain ⟨e, t, ez⟩ := top r hr
    have : e' = e := one_name nb he' t.mem (by rw [e2, ez, er])
    subst this
    exact inside_mem t.fit m hme
  have gf := U.top G Gst Glow
  have half : ∀ y z, Named rows y → Named rows z → (∀ m, f y m ↔ f z m) → ∀ m, G z m → G y m := fun y z ny nz eq m q => by
    obtain ⟨r, hr, er⟩ := ny
    have := Gst z nz r hr (fun k hk => U.low y ⟨r, hr, er⟩ k ((eq k).mpr (gf z nz k hk)) r hr er) m q
    rw [er] at this
    exact this
  refine ⟨fun e he m hm => gf e.2 ((N.mem _).mp (by rw [← nm]; exact List.mem_map.mpr ⟨e, he, rfl⟩)) m ((Gof he m).mpr hm), fun y z ny nz eq => ?_⟩
  have gy := half y z ny nz eq
  have gz := half z y nz ny fun m => (eq m).symm
  apply Classical.byContradiction
  intro ne
  obtain ⟨r, hr, er⟩ := nz
  obtain ⟨e, t, ez⟩ := top r hr
  have hy : y ∈ bs.map (·.2) := by rw [nm]; exact (N.mem y).mpr ny
  obtain ⟨e', he', ey⟩ := List.mem_map.mp hy
  have same : ∀ m, m ∈ e'.1 ↔ m ∈ e.1 := fun m => by
    rw [← Gof he', ← Gof t.mem, ey, ez, er]
    exact ⟨gz m, gy m⟩
  have neq : e' ≠ e := fun q => ne (by rw [← ey, q, ez, er])
  have := (t.all e' he' (inside_of fun m hm => inside_mem t.fit m ((same m).mp hm)) neq).2
  have l2 := asc_sub_len (asc _ he') (asc _ t.mem) fun m hm => (same m).mpr hm
  omega
/-- where no two ends are alike, the ends themselves make -/
theorem ends_top {ms : Str → List Int} {f : Str → Int → Prop} (N : Names rows F) (asc : ∀ z ∈ F, (ms z).Pairwise (· < ·)) (is : ∀ z ∈ F, ∀ m, m ∈ ms z ↔ f z m) (U : Under rows f) (S : Still rows f) (A : Apart rows f) {r : List Int × Str} (hr : r ∈ rows) : Tops (F.map fun z => (ms z, z)) r.1 (ms r.2, r.2) := by
  have nr : Named rows r.2 := ⟨r, hr, rfl⟩
  have rF := (N.mem _).mpr nr
  refine ⟨List.mem_map.mpr ⟨r.2, rF, rfl⟩, inside_of fun m hm => U.low _ nr m ((is _ rF m).mp hm) r hr rfl, fun o ho fo ne => ?_⟩
  obtain ⟨y, hy, rfl⟩ := List.mem_map.mp ho
  have ny := (N.mem y).mp hy
  have sub : ∀ m ∈ ms y, m ∈ ms r.2 := fun m hm => (is _ rF m).mpr (S y ny r hr (fun k hk => inside_mem fo k ((is y hy k).mpr hk)) m ((is y hy m).mp hm))
  refine ⟨inside_of sub, ?_⟩
  have le := asc_sub_len (asc _ rF) (asc _ hy) sub
  rcases Nat.lt_or_ge (ms y).length (ms r.2).length with l | l
  · exact l
  · exfalso
    have eq := asc_sub_eq (asc _ rF) (asc _ hy) sub (by omega)
    have : y = r.2 := A y r.2 ny nr fun m => by rw [← is y hy, ← is _ rF, eq]
    exact ne (by rw [this])
end
end Xci

namespace Xci
open PySem L2
theorem asc_sub {n n' : Int} {a b : List Int} (ha : MarksOk n a) (hb : MarksOk n' b) (h : ∀ m ∈ a, m ∈ b) : a.Sublist b := by
  have e : a = b.filter fun m => decide (m ∈ a) := MarksOk.one ha (hb.sub List.filter_sublist) fun m => by
    rw [List.mem_filter, decide_eq_true_iff]
    exact ⟨fun q => ⟨h m q, q⟩, fun q => q.2⟩
  rw [e]
  exact List.filter_sublist
theorem zip_self (g : Str → List Int) : ∀ zs : List Str, (zs.map g).zip zs = zs.map fun z => (g z, z)
  | [] => rfl
  | z :: r => by
    rw [List.map_cons, List.zip_cons_cons, zip_self g r]
    rfl
section
variable {cells : List (List Int)} {fs : List (Option Str)} {G zs : List Str} {s : StS}
theorem RunEnd.apart (h : RunEnd cells fs G s) (ok : ∀ c ∈ cells, MarksOk 6 c) : ApartX G s.1 ↔ Apart (rowsOf cells fs) fun z => hasB (s.1 z) := by
  have N := h.names ok
  constructor
  · intro ap y z ny nz eq
    exact ap y ((N.mem y).mpr ny) z ((N.mem z).mpr nz) (has_ext eq)
  · intro ap y hy z hz e
    exact ap y z ((N.mem y).mp hy) ((N.mem z).mp hz) fun m => by
      show hasB (s.1 y) m ↔ hasB (s.1 z) m
      rw [e]
theorem rise_names (len : fs.length = cells.length) (rise : Rising fs zs) (few : cells.length ≤ 24) (N : Names (rowsOf cells fs) G) : Names (rowsOf cells fs) zs := by
  have mem : ∀ z, z ∈ zs ↔ Named (rowsOf cells fs) z := fun z => by rw [rise.all, named_in len]
  exact ⟨rise.nd, mem⟩
theorem ends_low (h : RunEnd cells fs G s) (ok : ∀ c ∈ cells, MarksOk 6 c) (len : fs.length = cells.length) {z : Str} (hz : some z ∈ fs) : ∀ m ∈ marksN (s.1 z), m ∈ commonL (rowsOf cells fs) z := fun m hm => by
  have N := h.names ok
  have nz := (named_in len).mp hz
  have hb := (marksN_mem (h.small ok z ((N.mem z).mpr nz)) m).mp hm
  rw [commonL_mem (cells_named len hz)]
  intro c hc
  exact (h.ended ok).un.low z nz m hb (c, z) (cellsOf_mem.mp hc) rfl
theorem ends_entry (h : RunEnd cells fs G s) (ok : ∀ c ∈ cells, MarksOk 6 c) (len : fs.length = cells.length) (rise : Rising fs zs) (ap : ApartX G s.1) {r : List Int × Str} (hr : r ∈ rowsOf cells fs) : Tops (zs.map fun z => (marksN (s.1 z), z)) r.1 (marksN (s.1 r.2), r.2) := by
  have N := h.names ok
  have Nz : Names (rowsOf cells fs) zs := ⟨rise.nd, fun z => by rw [rise.all, named_in len]⟩
  have E := h.ended ok
  exact ends_top (f := fun z => hasB (s.1 z)) Nz (fun z _ => (marksN_ok _).up) (fun z hz m => marksN_mem (h.small ok z ((N.mem z).mpr ((Nz.mem z).mp hz))) m) E.un E.st ((h.apart ok).mp ap) hr
theorem nodup_ends (rise : Rising fs zs) (g : Str → List Int) : (zs.map fun z => (g z, z)).Nodup := List.Pairwise.map _ (fun a b ne e => ne (congrArg (·.2) e)) rise.nd
theorem RunEnd.entries_in (h : RunEnd cells fs G s) (ok : ∀ c ∈ cells, MarksOk 6 c) (len : fs.length = cells.length) (rise : Rising fs zs) (ap : ApartX G s.1) : (zs.map fun z => (marksN (s.1 z), z)) ∈ booksW (rowsOf cells fs) zs := by
  unfold booksW
  rw [List.mem_filter]
  refine ⟨List.mem_map.mpr ⟨zs.map fun z => marksN (s.1 z), ?_, zip_self _ zs⟩, List.all_eq_true.mpr fun r hr => decide_eq_true (tops_holder (e := (marksN (s.1 r.2), r.2)) (nodup_ends rise _) (ends_entry h ok len rise ap hr))⟩
  rw [choices_mem]
  have all : ∀ z ∈ zs, marksN (s.1 z) ∈ lots (commonL (rowsOf cells fs) z) := fun z hz => by
    have hz' := (rise.all z).mp hz
    exact lots_of (asc_sub (marksN_ok _) (commonL_ok (n := 6) (cells_named len hz') fun c hc => ok c (cells_told hc)) (ends_low h ok len hz'))
  clear rise
  induction zs with
  | nil => exact .nil
  | cons z r ih => exact .cons (all z List.mem_cons_self) (ih fun y hy => all y (List.mem_cons_of_mem _ hy))
theorem books_names {es : List Ent} (he : es ∈ booksW (rowsOf cells fs) zs) : es.map (·.2) = zs ∧ (∀ e ∈ es, e.1 ∈ lots (commonL (rowsOf cells fs) e.2)) ∧ withinMk (rowsOf cells fs) es = true := by
  unfold booksW at he
  obtain ⟨h1, h2⟩ := List.mem_filter.mp he
  obtain ⟨sets, hs, rfl⟩ := List.mem_map.mp h1
  rw [choices_mem] at hs
  have key : ∀ {sets : List (List Int)} {zs : List Str}, Paired (fun x l => x ∈ l) sets (zs.map fun z => lots (commonL (rowsOf cells fs) z)) → (sets.zip zs).map (·.2) = zs ∧ ∀ e ∈ sets.zip zs, e.1 ∈ lots (commonL (rowsOf cells fs) e.2) := by
    intro sets zs h
    induction zs generalizing sets with
    | nil => cases h; exact ⟨rfl, nofun⟩
    | cons z r ih =>
      cases h with
      | cons a t =>
        obtain ⟨i1, i2⟩ := ih t
        refine ⟨by rw [List.zip_cons_cons, List.map_cons, i1], fun e he => ?_⟩
        rw [List.zip_cons_cons] at he
        rcases List.mem_cons.mp he with rfl | he
        · exact a
        · exact i2 e he
  exact ⟨(key hs).1, (key hs).2, h2⟩
theorem RunEnd.books_below (h : RunEnd cells fs G s) (ok : ∀ c ∈ cells, MarksOk 6 c) (len : fs.length = cells.length) (rise : Rising fs zs) {es : List Ent} (he : es ∈ booksW (rowsOf cells fs) zs) : ApartX G s.1 ∧ ∀ e ∈ es, inside e.1 (marksN (s.1 e.2)) = true := by
  have N := h.names ok
  have Nz : Names (rowsOf cells fs) zs := ⟨rise.nd, fun z => by rw [rise.all, named_in len]⟩
  have E := h.ended ok
  obtain ⟨nm, lt, mk⟩ := books_names he
  have inz : ∀ e ∈ es, e.2 ∈ zs := fun e q => by rw [← nm]; exact List.mem_map.mpr ⟨e, q, rfl⟩
  have asc : ∀ e ∈ es, e.1.Pairwise (· < ·) := fun e q => by
    have hz := (rise.all _).mp (inz e q)
    exact (commonL_ok (n := 6) (cells_named len hz) fun c hc => ok c (cells_told hc)).up.sublist (lots_sub (lt e q))
  obtain ⟨below, ap⟩ := within_below (f := fun z => hasB (s.1 z)) Nz asc nm mk E.un E.st
  exact ⟨(h.apart ok).mpr ap, fun e q => inside_of fun m hm => (marksN_mem (h.small ok _ ((N.mem _).mpr ((Nz.mem _).mp (inz e q)))) m).mpr (below e q m hm)⟩
theorem RunEnd.books_iff (h : RunEnd cells fs G s) (ok : ∀ c ∈ cells, MarksOk 6 c) (len : fs.length = cells.length) (rise : Rising fs zs) : 0 < (booksW (rowsOf cells fs) zs).length ↔ ApartX G s.1 := by
  constructor
  · intro l
    exact (h.books_below ok len rise (List.getElem_mem l)).1
  · intro ap
    exact List.length_pos_of_mem (h.entries_in ok len rise ap)
end
end Xci

namespace Xci
open PySem L2
abbrev Tups (H : Hp) (ys : List V) (rows : List (List V)) : Prop := Paired (fun y row => Tup H y row) ys rows
theorem Tups.keep {H H' : Hp} {ys : List V} {rows : List (List V)} (f : TFr H H') (t : Tups H ys rows) : Tups H' ys rows := Paired.mapP t fun _ _ h => Tup.keep f h
abbrev Lsts (H : Hp) (ls : List Addr) (lv : List (List V)) : Prop := Paired (fun l xs => H l = some (.lst xs)) ls lv
/-- rows of one from each of up to three lists of up to eight -/
def spChoices : Sp := fun vs H Q _ => ∃ (p : Addr) (ls : List Addr) (lv : List (List V)), vs = [.ref p] ∧ H p = some (.lst (ls.map V.ref)) ∧ Lsts H ls lv ∧ lv.length ≤ 3 ∧ (∀ xs ∈ lv, xs.length ≤ 8) ∧
  ∀ (q : Addr) (ys : List V) (H' : Hp), H' q = some (.lst ys) → Tups H' ys (choices lv) → H q = none → Same H H' → Q (.ref q) H'
theorem choices_512 {lv : List (List V)} (l3 : lv.length ≤ 3) (l8 : ∀ xs ∈ lv, xs.length ≤ 8) (i : Nat) : (choices (lv.take i)).length ≤ 512 := by
  have h := choices_len (n := 8) (lv.take i) fun l hl => l8 l (List.mem_of_mem_take hl)
  have : 8 ^ (lv.take i).length ≤ 8 ^ 3 := Nat.pow_le_pow_right (by decide) (by rw [List.length_take]; omega)
  omega
section
variable {P : Program} {w : World} {K : PySem.W.Frag} {mg : Str → Option Value} {base : Heap}
abbrev sLawChoices : Stmt := top 83
theorem scLawChoices : FnScope ["lists", "found", "things", "longer", "row", "one"] ["lists"] (defScope sLawChoices) := ⟨rfl, rfl, rfl, by decide +kernel, rfl, by decide +kernel, by decide +kernel⟩
set_option maxHeartbeats 4000000 in
theorem ok_choices {f : Addr} {fd : FuncData} (F : Fun K "_law_choices" "_law_choices" sLawChoices f fd) : FnOk P w K mg base CX0 1 f fd ["lists"] spChoices := by
  refine F.ok scLawChoices (fun vs H Q E h => ?_) (fun cdv A outer s H vs Q E hr h => ?_)
  · obtain ⟨p, ls, lv, rfl, _⟩ := h
    rfl
  · obtain ⟨p, ls, lv, rfl, hp, hl, l3, l8, k⟩ := h
    refine ⟨_, (pss_cons (ps_set (i := 1) scLawChoices.nd rfl (by first | exact Or.inl rfl | exact Or.inr rfl) (pe_lst (pa_cons (pe_tup pa_nil) pa_nil)))
      (pss_cons (ps_for PassesOwn.never rfl (pi_list (pv 0)) (pg_name (i := 2) scLawChoices.nd rfl (by first | exact Or.inl rfl | exact Or.inr rfl)) (pss_cons (ps_set (i := 3) scLawChoices.nd rfl (by first | exact Or.inl rfl | exact Or.inr rfl) (pe_lst pa_nil))
      (pss_cons (ps_for PassesOwn.never rfl (pi_list (pv 1)) (pg_name (i := 4) scLawChoices.nd rfl (by first | exact Or.inl rfl | exact Or.inr rfl)) (pss_one (ps_expr (pe_bm PySem.F.plainAttrs_list PySem.F.slot_list_extend PySem.F.type_list_extend mt_extend (pv 3) (pa_cons (pe_lc (own := [("one", 5)]) rfl scLawChoices.nd (pi_list (pv 2)) (blkOk_by (N := ["lists", "found", "things", "longer", "row", "one"]) (sc := defScope sLawChoices) (by decide +kernel)) (fun _ _ _ _ _ => (pg_name (i := 5) scLawChoices.nd rfl (by first | exact Or.inl rfl | exact Or.inr rfl))) (fun _ _ _ _ _ => pts_nil) (fun _ _ _ _ _ => (pe_op (show OpR _ _ (rCatA K) from op_catA) (pv 4) (pe_tup (pa_cons (pv 5) pa_nil))))) pa_nil)))))
      (pss_one (ps_set (i := 1) scLawChoices.nd rfl (by first | exact Or.inl rfl | exact Or.inr rfl) (pv 3))))))
      (pss_one (ps_ret (pv 1))))), ?_⟩
    refine ⟨Nat.zero_le _, fun t ht => ⟨(by show 1 ≤ sizeLine; decide), fun q hq => ?_⟩⟩
    have s0 : Same H (upd (upd H t (.tup [])) q (.lst [.ref t])) := (Same.new ht).trans (Same.new hq)
    have et : (upd (upd H t (.tup [])) q (.lst [.ref t])) t = some (.tup []) := by rw [upd_ne (ne_of_none upd_same hq)]; exact upd_same
    have hq0 : H q = Option.none := (Same.new ht).free hq
    have eq : (upd (upd H t (.tup [])) q (.lst [.ref t])) q = some (.lst [.ref t]) := upd_same
    generalize upd (upd H t (.tup [])) q (.lst [.ref t]) = H1 at *
    refine ⟨_, rfl, p, rfl, ⟨_, SqL.of (s0 _ _ hp)⟩, for_list (K := K) (a := p) (xs := ls.map V.ref) (fun i σ H2 => ∃ (u : Addr) (ys : List V) (o2 o3 o4 : Option V), σ = [some (.ref p), some (.ref u), o2, o3, o4, none] ∧ Same H H2 ∧ H u = Option.none ∧ H2 u = some (.lst ys) ∧ Tups H2 ys (choices (lv.take i)))
      ⟨q, [.ref t], none, none, none, rfl, s0, hq0, eq, Paired.one ⟨t, rfl, et⟩⟩ (fun i σ H2 _ ⟨_, _, _, _, _, _, e, _⟩ => SqL.of (e _ _ hp)) ?_ ?_⟩
    · rintro i y σ H2 hi ⟨u, ys, o2, o3, o4, rfl, sm, hu0, eu, hm⟩
      rw [List.getElem?_map] at hi
      obtain ⟨li, hli, rfl⟩ := Option.map_eq_some_iff.mp hi
      obtain ⟨xs, hxs, eli⟩ := Paired.get hl hli
      have lx := l8 xs (List.mem_of_getElem? hxs)
      have lys := Paired.length hm
      have c512 := choices_512 l3 l8 i
      have d512 := choices_512 l3 l8 (i + 1)
      have nxt : choices (lv.take (i + 1)) = (choices (lv.take i)).flatMap fun row => xs.map fun x => row ++ [x] := by
        rw [List.take_add_one, hxs]
        exact choices_snoc _ _
      rw [nxt] at d512
      refine ⟨Nat.zero_le _, fun L hL => ?_⟩
      have s1 : Same H2 (upd H2 L (.lst [])) := Same.new hL
      have eL : (upd H2 L (.lst [])) L = some (.lst []) := upd_same
      generalize upd H2 L (.lst []) = H3 at *
      refine ⟨_, rfl, u, rfl, ⟨_, SqL.of (s1 _ _ eu)⟩, ?_⟩
      refine for_list (K := K) (a := u) (xs := ys) (fun j σ H4 => ∃ (zs : List V) (o4 : Option V), σ = [some (.ref p), some (.ref u), some (.ref li), some (.ref L), o4, none] ∧ Same H2 H4 ∧ H4 L = some (.lst zs) ∧ Tups H4 zs (((choices (lv.take i)).take j).flatMap fun row => xs.map fun x => row ++ [x]))
        ⟨[], o4, rfl, s1, eL, .nil⟩ (fun j σ H4 _ ⟨_, _, _, e, _⟩ => SqL.of (e _ _ eu)) ?_ ?_
      · rintro j y σ H4 hj ⟨zs, o4', rfl, s4, eL4, hz⟩
        obtain ⟨row, hrow, tu⟩ := Paired.get hm hj
        obtain ⟨tp, rfl, htp⟩ := tu
        have htp4 := s4 _ _ htp
        have eli4 := s4 _ _ (sm _ _ eli)
        have lrow : row.length ≤ 3 := by
          have := Paired.length ((choices_mem _ row).mp (List.mem_of_getElem? hrow))
          rw [List.length_take] at this
          omega
        refine ⟨_, rfl, .inl ⟨rfl, _, SqL.of eL4⟩, _, rfl, li, rfl, ⟨_, SqL.of eli4⟩, fun D hD => ?_⟩
        refine lc_list (K := K) (a := li) (xs := xs) (fun n H5 => ∃ us, Same H4 H5 ∧ H5 D = some (.lst us) ∧ Tups H5 us ((xs.take n).map fun x => row ++ [x])) ⟨[], Same.new hD, upd_same, .nil⟩ (fun n H5 _ ⟨_, e, _⟩ => SqL.of (e _ _ eli4)) ?_ ?_
        · rintro n x H5 hn ⟨us, s5, eD, hu⟩
          have lu := Paired.length hu
          rw [List.length_map, List.length_take] at lu
          have htp5 := s5 _ _ htp4
          refine ⟨rfl, _, rfl, _, rfl, (by show 1 ≤ sizeLine; decide), fun r hr => ?_⟩
          have e6 : (upd H5 r (.tup [x])) r = some (.tup [x]) := upd_same
          have s6 : Same H5 (upd H5 r (.tup [x])) := Same.new hr
          generalize upd H5 r (.tup [x]) = H6 at *
          have nD : ∀ {c : Addr} {o : HO}, H4 c = some o → c ≠ D := fun h => ne_of_none h hD
          have et : (xs.take (n + 1)).map (fun x => row ++ [x]) = (xs.take n).map (fun x => row ++ [x]) ++ [row ++ [x]] := by
            rw [List.take_add_one, hn, List.map_append]
            rfl
          refine ⟨tp, r, _, _, rfl, rfl, sqT (s6 _ _ htp5), sqT e6, ?_, fun hnil => ?_, ?_, fun hne hne2 z hz => ?_⟩
          · show row.length + 1 ≤ sizeLine
            exact Nat.le_of_lt (small1000 (by omega))
          · refine ⟨us, s6 _ _ eD, small1000 (by omega), us ++ [.ref r], fun b o h => by rw [upd_ne (nD h)]; exact s6 _ _ (s5 _ _ h), upd_same, ?_⟩
            rw [et, hnil]
            have tf : TFr H6 (upd H6 D (.lst (us ++ [.ref r]))) := TFr.lst (s6 _ _ eD)
            rw [hnil] at hu
            exact Paired.app ((hu.keep (TFr.same s6)).keep tf) (Paired.one ⟨r, rfl, tf _ _ e6⟩)
          · intro _ hy
            cases hy
          · have e7 : (upd H6 z (.tup (row ++ [x]))) z = some (.tup (row ++ [x])) := upd_same
            have s7 : Same H6 (upd H6 z (.tup (row ++ [x]))) := Same.new hz
            generalize upd H6 z (.tup (row ++ [x])) = H7 at *
            refine ⟨us, s7 _ _ (s6 _ _ eD), small1000 (by omega), us ++ [.ref z], fun b o h => by rw [upd_ne (nD h)]; exact s7 _ _ (s6 _ _ (s5 _ _ h)), upd_same, ?_⟩
            rw [et]
            have tf : TFr H7 (upd H7 D (.lst (us ++ [.ref z]))) := TFr.lst (s7 _ _ (s6 _ _ eD))
            exact Paired.app ((hu.keep (TFr.same (s6.trans s7))).keep tf) (Paired.one ⟨z, rfl, tf _ _ e7⟩)
        · rintro H5 ⟨us, s5, eD, hu⟩
          rw [List.take_length] at hu
          have lu := Paired.length hu
          rw [List.length_map] at lu
          have nx : (choices (lv.take i)).take (j + 1) = (choices (lv.take i)).take j ++ [row] := by rw [List.take_add_one, hrow]; rfl
          have lz := Paired.length hz
          have zle : zs.length ≤ 512 := by
            rw [lz]
            have e := congrArg (fun l => (l.flatMap fun row => xs.map fun x => row ++ [x]).length) (List.take_append_drop j (choices (lv.take i)))
            have e : (((choices (lv.take i)).take j ++ (choices (lv.take i)).drop j).flatMap fun row => xs.map fun x => row ++ [x]).length = ((choices (lv.take i)).flatMap fun row => xs.map fun x => row ++ [x]).length := e
            rw [List.flatMap_append, List.length_append] at e
            omega
          have eL5 := s5 _ _ eL4
          have tf := TFr.lst (o := .lst (zs ++ us)) eL5
          refine ⟨L, D, zs, us, rfl, rfl, eL5, eD, show zs.length + us.length ≤ sizeLine from Nat.le_of_lt (small1000 (by omega)), zs ++ us, _, rfl, fun b o hb => by rw [upd_ne (ne_of_none hb hL)]; exact s5 _ _ (s4 b o hb), upd_same, ?_⟩
          rw [nx, List.flatMap_append, List.flatMap_singleton]
          exact Paired.app ((hz.keep (TFr.same s5)).keep tf) (hu.keep tf)
      · rintro σ H4 ⟨zs, o4', rfl, s4, eL4, hz⟩
        rw [List.take_of_length_le (by rw [← lys]; exact Nat.le_refl _), ← nxt] at hz
        exact ⟨_, rfl, L, zs, _, _, _, rfl, sm.trans s4, sm.free hL, eL4, hz⟩
    · rintro σ H2 ⟨u, ys, o2, o3, o4, rfl, sm, hu0, eu, hm⟩
      rw [List.length_map, Paired.length hl, List.take_length] at hm
      exact ⟨_, rfl, k u ys H2 eu hm hu0 sm⟩
end
end Xci

namespace Xci
open PySem L2
/-- the form of the entry that holds all others at a cell -/
def spHolder : Sp := fun vs H Q _ => ∃ (p : Addr) (v : V) (ys : List V) (es : List Ent) (c : List Int), vs = [.ref p, v] ∧ H p = some (.lst ys) ∧ Ents H ys es ∧ (∀ e ∈ es, e.1.length ≤ 6) ∧ es.length ≤ 12 ∧ Xci.Mk H v c ∧ ∀ H', Same H H' → Q (formV (holderX es c)) H'
section
variable {P : Program} {w : World} {K : PySem.W.Frag} {mg : Str → Option Value} {base : Heap}
abbrev sLawHolder : Stmt := top 80
theorem scLawHolder : FnScope ["entries", "cell", "fits", "entry", "marks", "form", "under"] ["entries", "cell"] (defScope sLawHolder) := ⟨rfl, rfl, rfl, by decide +kernel, rfl, by decide +kernel, by decide +kernel⟩
set_option maxHeartbeats 4000000 in
theorem ok_holder {f : Addr} {fd : FuncData} (F : Fun K "_law_holder" "_law_holder" sLawHolder f fd) (T : Txt mg) (HLi : Has P w K mg base "_law_lies" ["one", "other"] 1 spIn) : FnOk P w K mg base CX0 2 f fd ["entries", "cell"] spHolder := by
  refine F.ok scLawHolder (fun vs H Q E h => ?_) (fun cdv A outer s H vs Q E hr h => ?_)
  · obtain ⟨p, v, ys, es, c, rfl, _⟩ := h
    rfl
  · obtain ⟨p, v, ys, es, c, rfl, hp, en, l6, l12, hc, k⟩ := h
    refine ⟨_, (pss_cons (ps_setLc (i := 2) (own := [("entry", 3)]) rfl scLawHolder.nd rfl rfl (sw_true rfl rfl rfl (by decide +kernel)) (pi_list (pv 0)) (blkOk_by (N := ["entries", "cell", "fits", "entry", "marks", "form", "under"]) (sc := defScope sLawHolder) (by decide +kernel)) (fun _ _ _ _ _ => (pg_name (i := 3) scLawHolder.nd rfl (by first | exact Or.inl rfl | exact Or.inr rfl))) (fun _ _ _ _ _ => pts_one (pt_val (pe_callH HLi (hr.mono (by decide)) rfl (pa_cons (pe_ix (show IxR _ (rIxT K) from ix_tup) (pv 3) pe_int (fun _ _ => rfl)) (pa_cons (pv 1) pa_nil))))) (fun _ _ _ _ _ => (pv 3)))
      (pss_cons (ps_for PassesOwn.never rfl (pi_list (pv 2)) (pg_tup rfl (pgs_cons (pg_name (i := 4) scLawHolder.nd rfl (by first | exact Or.inl rfl | exact Or.inr rfl)) (pgs_cons (pg_name (i := 5) scLawHolder.nd rfl (by first | exact Or.inl rfl | exact Or.inr rfl)) pgs_nil))) (pss_cons (ps_setLc (i := 6) (own := [("entry", 3)]) rfl scLawHolder.nd rfl rfl (sw_true rfl rfl rfl (by decide +kernel)) (pi_list (pv 2)) (blkOk_by (N := ["entries", "cell", "fits", "entry", "marks", "form", "under"]) (sc := defScope sLawHolder) (by decide +kernel)) (fun _ _ _ _ _ => (pg_name (i := 3) scLawHolder.nd rfl (by first | exact Or.inl rfl | exact Or.inr rfl))) (fun _ _ _ _ _ => pts_one (PW.pt (pw_and (pt_cmpR op_lt (pe_callB (show CallR _ _ (rLen K) from call_lenK) rfl T.len PySem.boot_len (pa_cons (pe_ix (show IxR _ (rIxT K) from ix_tup) (pv 3) pe_int (fun _ _ => rfl)) pa_nil)) (pe_callB (show CallR _ _ (rLen K) from call_lenK) rfl T.len PySem.boot_len (pa_cons (pv 4) pa_nil)) (nomark _)) (pw_and1 (pt_val (pe_callH HLi (hr.mono (by decide)) rfl (pa_cons (pe_ix (show IxR _ (rIxT K) from ix_tup) (pv 3) pe_int (fun _ _ => rfl)) (pa_cons (pv 4) pa_nil)))))))) (fun _ _ _ _ _ => (pv 3)))
      (pss_one (ps_if (pt_cmpR op_eq (pe_callB call_len rfl T.len PySem.boot_len (pa_cons (pv 6) pa_nil)) (pe_op op_sub (pe_callB call_len rfl T.len PySem.boot_len (pa_cons (pv 2) pa_nil)) pe_int) (nomark _)) (pss_one (ps_ret (pv 5))) pss_nil))))
      (pss_one (ps_ret pe_non)))), ?_⟩
    refine ⟨_, rfl, p, rfl, ⟨_, SqL.of hp⟩, fun D hD => ?_⟩
    refine lc_list (K := K) (a := p) (xs := ys) (fun n H1 => ∃ us, Same H H1 ∧ H1 D = some (.lst us) ∧ Ents H1 us (fitsE (es.take n) c)) ⟨[], Same.new hD, upd_same, .nil⟩ (fun n H1 _ ⟨_, e, _⟩ => SqL.of (e _ _ hp)) ?_ ?_
    · rintro n y H1 hn ⟨us, s1, eD, hu⟩
      obtain ⟨e, he, u, ⟨tp, rfl, htp⟩, hm⟩ := Paired.get en hn
      have lu := Paired.length hu
      have lf : (fitsE (es.take n) c).length ≤ es.length := Nat.le_trans (List.length_filter_le _ _) (by rw [List.length_take]; omega)
      have ft : fitsE (es.take (n + 1)) c = fitsE (es.take n) c ++ if inside e.1 c = true then [e] else [] := by
        unfold fitsE
        rw [List.take_add_one, he, List.filter_append]
        congr 1
        show List.filter _ [e] = _
        rw [List.filter_cons, List.filter_nil]
      have l6e := l6 e (List.mem_of_getElem? he)
      refine ⟨rfl, _, rfl, tp, _, _, _, rfl, rfl, sqT (s1 _ _ htp), at_of (j := 0) rfl rfl, _, rfl, u, v, e.1, c, rfl, Tup.keep (TFr.same s1) hm, Tup.keep (TFr.same s1) hc, by omega, fun H2 s2 => ?_⟩
      rw [ft]
      refine ⟨_, rfl, ?_⟩
      refine ite2 (fun q => ?_) (fun q => ?_)
      · rw [if_pos q]
        have e2 := s2 _ _ eD
        have tf := TFr.lst (o := .lst (us ++ [.ref tp])) e2
        refine ⟨_, rfl, us, e2, small1000 (by omega), us ++ [.ref tp], fun b o hb => by rw [upd_ne (ne_of_none hb hD)]; exact s2 _ _ (s1 b o hb), upd_same, ?_⟩
        exact Paired.app ((Ents.keep (TFr.same s2) hu).keep tf) (Paired.one ⟨u, ⟨tp, rfl, tf _ _ (s2 _ _ (s1 _ _ htp))⟩, Tup.keep tf (Tup.keep (TFr.same (s1.trans s2)) hm)⟩)
      · rw [if_neg q, List.append_nil]
        exact ⟨us, s1.trans s2, s2 _ _ eD, Ents.keep (TFr.same s2) hu⟩
    · rintro H1 ⟨us, s1, eD, hu⟩
      rw [Paired.length en, List.take_length] at hu
      have lu := Paired.length hu
      have lf : (fitsE es c).length ≤ es.length := List.length_filter_le _ _
      refine ⟨_, rfl, D, rfl, ⟨_, SqL.of eD⟩, for_list (K := K) (a := D) (xs := us) (fun j σ H2 => Same H1 H2 ∧ (∀ j' < j, ∀ e, (fitsE es c)[j']? = some e → holderC (fitsE es c) e = false) ∧ ∃ o4 o5 o6 : Option V, σ = [some (.ref p), some v, some (.ref D), none, o4, o5, o6])
        ⟨fun b o h => h, nofun, _, _, _, rfl⟩ (fun j σ H2 _ ⟨e, _⟩ => SqL.of (e _ _ eD)) ?_ ?_⟩
      · rintro j y σ H2 hj ⟨s2, no, o4, o5, o6, rfl⟩
        obtain ⟨e, he, u, ⟨tp, rfl, htp⟩, hm⟩ := Paired.get hu hj
        have eD2 := s2 _ _ eD
        have hm2 : Xci.Mk H2 u e.1 := Tup.keep (TFr.same s2) hm
        obtain ⟨ua, rfl, hua⟩ := hm2
        refine ⟨tp, _, rfl, sqT (s2 _ _ htp), rfl, _, _, rfl, _, _, rfl, rfl, ?_⟩
        refine ⟨_, rfl, D, rfl, ⟨_, SqL.of eD2⟩, fun D2 hD2 => ?_⟩
        refine lc_list (K := K) (a := D) (xs := us) (fun n H3 => ∃ ws, Same H2 H3 ∧ H3 D2 = some (.lst ws) ∧ ws.length = (underE ((fitsE es c).take n) e.1).length) ⟨[], Same.new hD2, upd_same, rfl⟩ (fun n H3 _ ⟨_, e, _⟩ => SqL.of (e _ _ eD2)) ?_ ?_
        · rintro n y H3 hn ⟨ws, s3, eD3, lw⟩
          obtain ⟨e', he', u', ⟨tp', rfl, htp'⟩, hm'⟩ := Paired.get hu hn
          have hm3 : Xci.Mk H3 u' e'.1 := Tup.keep (TFr.same (s2.trans s3)) hm'
          obtain ⟨ua', rfl, hua'⟩ := hm3
          have htp3 := s3 _ _ (s2 _ _ htp')
          have l6e := l6 e' (List.mem_filter.mp (List.mem_of_getElem? he')).1
          have lt : (underE ((fitsE es c).take n) e.1).length ≤ es.length := Nat.le_trans (List.length_filter_le _ _) (by rw [List.length_take]; omega)
          have ut : underE ((fitsE es c).take (n + 1)) e.1 = underE ((fitsE es c).take n) e.1 ++ if (decide (e'.1.length < e.1.length) && inside e'.1 e.1) = true then [e'] else [] := by
            unfold underE
            rw [List.take_add_one, he', List.filter_append]
            congr 1
            show List.filter _ [e'] = _
            rw [List.filter_cons, List.filter_nil]
          rw [ut]
          refine ⟨rfl, _, rfl, tp', _, _, _, rfl, rfl, sqT htp3, at_of (j := 0) rfl rfl, _, _, rfl, .inr ⟨_, sqT hua', rfl⟩, _, rfl, _, _, rfl, .inr ⟨_, sqT (s3 _ _ hua), rfl⟩, _, _, rfl, rfl, _, rfl, ?_⟩
          rw [List.length_map, List.length_map]
          have no' : ∀ H4, Same H3 H4 → ¬ ((decide (e'.1.length < e.1.length) && inside e'.1 e.1) = true) → ∃ ws, Same H2 H4 ∧ H4 D2 = some (.lst ws) ∧ ws.length = (underE ((fitsE es c).take n) e.1 ++ if (decide (e'.1.length < e.1.length) && inside e'.1 e.1) = true then [e'] else []).length := fun H4 s4 q => by
            rw [if_neg q, List.append_nil]
            exact ⟨ws, s3.trans s4, s4 _ _ eD3, lw⟩
          refine ite2 (fun l => ?_) (fun l => no' H3 (fun b o h => h) (by
            have : decide (e'.1.length < e.1.length) = false := decide_eq_false fun q => l (decide_eq_true (by omega))
            rw [this]; simp))
          have l' : e'.1.length < e.1.length := by have := of_decide_eq_true l; omega
          refine ⟨_, rfl, tp', _, _, _, rfl, rfl, sqT htp3, at_of (j := 0) rfl rfl, _, rfl, _, _, e'.1, e.1, rfl, ⟨ua', rfl, hua'⟩, ⟨ua, rfl, s3 _ _ hua⟩, by omega, fun H4 s4 => ?_⟩
          refine ⟨_, rfl, ?_⟩
          refine ite2 (fun q => ?_) (fun q => no' H4 s4 (by rw [decide_eq_true l']; simpa using q))
          have e4 := s4 _ _ eD3
          refine ⟨_, rfl, ws, e4, small1000 (by omega), ws ++ [.ref tp'], fun b o hb => by rw [upd_ne (ne_of_none hb hD2)]; exact s4 _ _ (s3 b o hb), upd_same, ?_⟩
          rw [if_pos (by rw [decide_eq_true l', q]; rfl), List.length_append, List.length_append, lw]
          rfl
        · rintro H3 ⟨ws, s3, eD3, lw⟩
          rw [lu, List.take_length] at lw
          refine ⟨_, rfl, _, _, rfl, .inl ⟨_, SqL.of eD3, rfl⟩, _, rfl, _, _, rfl, .inl ⟨_, SqL.of (s3 _ _ eD2), rfl⟩, _, _, rfl, rfl, rfl, _, rfl, ?_⟩
          have cond : decide (V.int ((ws.length : Nat) : Int) = V.int (((us.length : Nat) : Int) - 1)) = holderC (fitsE es c) e := by
            unfold holderC
            rw [decide_eq_decide, V.int.injEq, lw, lu]
            omega
          rw [cond]
          refine ite2 (fun q => ?_) (fun q => ?_)
          · have : holderX es c = some e.2 := by
              unfold holderX
              rw [find_nth he q fun i' hi' r' h' => no i' hi' r' h']
              rfl
            rw [this] at k
            exact ⟨_, rfl, k H3 (s1.trans (s2.trans s3))⟩
          · refine ⟨s2.trans s3, fun j' hj' e' h' => ?_, _, _, _, rfl⟩
            rcases Nat.lt_or_ge j' j with l | l
            · exact no j' l e' h'
            · obtain rfl : j' = j := by omega
              rw [he] at h'
              obtain rfl := Option.some.inj h'
              simpa using q
      · rintro σ H2 ⟨s2, no, o4, o5, o6, rfl⟩
        have : holderX es c = none := by
          unfold holderX
          rw [find_no (fun i r hi => no i (by have := (List.getElem?_eq_some_iff.mp hi).1; omega) r hi)]
          rfl
        rw [this] at k
        exact k H2 (s1.trans s2)
end
end Xci

namespace Xci
open PySem L2

section
variable {P : Program} {w : World} {K : PySem.W.Frag} {mg : Str → Option Value} {base : Heap}
abbrev sRank : Stmt := top 34
theorem scRank : FnScope ["book", "number", "marks", "mark"] ["book", "number"] (defScope sRank) := ⟨rfl, rfl, rfl, by decide +kernel, rfl, by decide +kernel, by decide +kernel⟩

theorem ent_at {H : Hp} {ys : List V} {es : List Ent} {j : Nat} (ents : Ents H ys es) (hj : j < es.length) : ∃ (r : Addr) (u : V) (e : Ent), ys[j]? = some (.ref r) ∧ H r = some (.tup [u, .str e.2]) ∧ Xci.Mk H u e.1 ∧ es[j]? = some e := by
  obtain ⟨y, hy, u, ⟨r, rfl, hr⟩, mu⟩ := Paired.get' ents (List.getElem?_eq_getElem hj)
  exact ⟨r, u, es[j], hy, hr, mu, List.getElem?_eq_getElem hj⟩
theorem mk_ent {es : List Ent} {j : Nat} {e : Ent} (ok : ∀ e ∈ es, EntOk e) (h : es[j]? = some e) : MarksOk 6 e.1 := (ok e (List.mem_of_getElem? h)).ms
theorem ws_at {ws : List Int} {m : Int} (hl : ws.length = 6) (h0 : 0 ≤ m) (h1 : m < 6) : (ws.map V.int)[m.toNat]? = some (.int (ws.getD m.toNat 0)) := by
  have hm : m.toNat < ws.length := by omega
  rw [List.getElem?_map, List.getElem?_eq_getElem hm]
  simp [List.getD_eq_getElem?_getD, List.getElem?_eq_getElem hm]
theorem take_map {α β : Type} {f : α → β} {l : List α} {i : Nat} {x : α} (h : l[i]? = some x) : (l.take (i + 1)).map f = (l.take i).map f ++ [f x] := by
  rw [List.take_add_one, h, List.map_append]
  rfl
theorem ok_rank {f C aM : Addr} {fd : FuncData} (F : Fun K "rank" "rank" sRank f fd) (T : Txt mg) (B : BkTxt K mg C aM) : FnOk P w K mg base CX0 1 f fd ["book", "number"] (spRank C) := by
  refine F.ok scRank (fun vs H Q E h => ?_) (fun cdv A outer s H vs Q E hr h => ?_)
  · obtain ⟨b, man, ws, es, j, rfl, _⟩ := h
    rfl
  · obtain ⟨b, man, ws, es, j, rfl, ⟨⟨p, wt, ys, ⟨dx, hb⟩, hp, ents, hw⟩, ok, hl⟩, hj, k⟩ := h
    refine ⟨_, (pss_cons (ps_set (i := 2) scRank.nd rfl (by first | exact Or.inl rfl | exact Or.inr rfl) (pe_ix ix_tup (pe_ix ix_tup (pe_fld (pv 0) rfl) (pv 1) (fun _ _ => rfl)) pe_int (fun _ _ => rfl)))
      (pss_cons (ps_if (pt_cmpR op_eq (pe_fld (pv 0) rfl) pe_str (nomark _)) (pss_one (ps_ret (pe_callB (cr_sum rfl) rfl T.sum (by decide +kernel) (pa_cons (pe_lc (own := [("mark", 3)]) rfl scRank.nd (pi_tup (pv 2)) (blkOk_by (N := ["book", "number", "marks", "mark"]) (sc := defScope sRank) (by decide +kernel)) (fun _ _ _ _ _ => (pg_name (i := 3) scRank.nd rfl (by first | exact Or.inl rfl | exact Or.inr rfl))) (fun _ _ _ _ _ => pts_nil) (fun _ _ _ _ _ => (pe_ix (show IxR _ (rIxT K) from ix_tup) (show PE _ _ (tFld K _ _) from pe_fld (pv 0) rfl) (pv 3) (fun _ _ => rfl)))) pa_nil)))) pss_nil)
      (pss_one (ps_ret (pe_callB call_len rfl T.len PySem.boot_len (pa_cons (pv 2) pa_nil)))))), ?_⟩
    obtain ⟨r, u, e, hy, hr0, ⟨q, rfl, hq⟩, he⟩ := ent_at ents hj
    have mok := mk_ent ok he
    refine ⟨_, rfl, b, C, dx, _, _, rfl, hb, B.cl, B.nE, bf_entries _ _ _, _, rfl, p, _, _, _, rfl, rfl, sqT hp, at_of (j := j) rfl hy, r, _, _, _, rfl, rfl, sqT hr0, at_of (j := 0) rfl rfl, ?_⟩
    refine ⟨_, rfl, b, C, dx, _, _, rfl, hb, B.cl, B.nM, bf_manner _ _ _, rfl, _, rfl, ?_⟩
    rcases hw with ⟨hn, rfl⟩ | ⟨rfl, mw, hwl, hwb⟩
    · refine ite2 (fun hf => absurd (V.str.inj (of_decide_eq_true hf)) hn) (fun _ => ?_)
      refine ⟨_, rfl, _, _, rfl, .inr ⟨_, sqT hq, rfl⟩, ?_⟩
      have e1 : rkA man ws es j = ((e.1.map V.int).length : Nat) := by
        unfold rkA rk
        rw [if_neg hn, mkA_at he, List.length_map]
      have k' := k H (Same.refl H)
      rw [e1] at k'
      exact k'
    · refine ite2 (fun _ => ?_) (fun hf => absurd (decide_eq_true rfl) hf)
      obtain ⟨wp, rfl, hwp⟩ := mw
      refine ⟨_, rfl, q, rfl, ⟨_, sqT hq⟩, fun D hD => ?_⟩
      have ml := mok.len
      refine lc_tup (K := K) (a := q) (xs := e.1.map V.int) (fun i H4 => Same H H4 ∧ H4 D = some (.lst (((e.1.take i).map fun m => ws.getD m.toNat 0).map V.int))) ⟨Same.new hD, upd_same⟩ (fun i H4 _ ⟨s4, _⟩ => sqT (s4 _ _ hq)) ?_ ?_
      · rintro i y H4 hi ⟨sm, e4⟩
        obtain ⟨m, hm, rfl⟩ := int_of hi
        have mem := List.mem_of_getElem? hm
        have h0 := mok.lo m mem
        have h1 := mok.hi m mem
        refine ⟨rfl, _, rfl, b, C, dx, _, _, rfl, sm _ _ hb, B.cl, B.nW, bf_weights _ _ _, _, rfl, wp, _, _, _, rfl, rfl, sqT (sm _ _ hwp), at_of (j := m.toNat) (by omega) (ws_at hwl h0 h1), ?_⟩
        refine ⟨_, e4, by rw [List.length_map, List.length_map, List.length_take]; exact small1000 (by omega), fun b o h => by rw [upd_ne (ne_of_none h hD)]; exact sm b o h, ?_⟩
        rw [upd_same, take_map hm, List.map_append]
        rfl
      · rintro H4 ⟨sm, e4⟩
        rw [List.length_map, List.take_length] at e4
        refine ⟨D, _, rfl, SqL.of e4, ?_⟩
        have e1 : rkA "weights" ws es j = (e.1.map fun m => ws.getD m.toNat 0).sum := by
          unfold rkA rk
          rw [if_pos rfl, mkA_at he]
        have k' := k H4 sm
        rw [e1] at k'
        exact k'
abbrev sHighest : Stmt := top 35
theorem scHighest : FnScope ["book", "numbers", "ranks", "number", "best", "reached"] ["book", "numbers"] (defScope sHighest) := ⟨rfl, rfl, rfl, by decide +kernel, rfl, by decide +kernel, by decide +kernel⟩

theorem filt_snoc {α : Type} {p : α → Bool} {l : List α} {i : Nat} {x : α} (h : l[i]? = some x) : (l.take (i + 1)).filter p = (l.take i).filter p ++ if p x = true then [x] else [] := by
  rw [List.take_add_one, h, List.filter_append]
  show _ ++ List.filter p [x] = _
  rw [List.filter_cons, List.filter_nil]
theorem ok_highest {f C : Addr} {fd : FuncData} (F : Fun K "_highest" "_highest" sHighest f fd) (T : Txt mg) (HR : Has P w K mg base "rank" ["book", "number"] 1 (spRank C)) : FnOk P w K mg base CX0 2 f fd ["book", "numbers"] (spHighest C) := by
  refine F.ok scHighest (fun vs H Q E h => ?_) (fun cdv A outer s H vs Q E hr h => ?_)
  · obtain ⟨b, q, man, ws, es, js, rfl, _⟩ := h
    rfl
  · obtain ⟨b, q, man, ws, es, js, rfl, bs, hq, hlt, hne, hjl, k⟩ := h
    refine ⟨_, (C8.pss_cut (ps_setLc (i := 2) (own := [("number", 3)]) rfl scHighest.nd rfl rfl (sw_true rfl rfl rfl (by decide +kernel)) (pi_tup (pv 1)) (blkOk_by (N := ["book", "numbers", "ranks", "number", "best", "reached"]) (sc := defScope sHighest) (by decide +kernel)) (fun _ _ _ _ _ => (pg_name (i := 3) scHighest.nd rfl (by first | exact Or.inl rfl | exact Or.inr rfl))) (fun _ _ _ _ _ => pts_nil) (fun _ _ _ _ _ => (pe_callH HR (hr.mono (by decide)) rfl (pa_cons (pv 0) (pa_cons (pv 3) pa_nil)))))
      (C8.pss_cut (ps_set (i := 4) scHighest.nd rfl (by first | exact Or.inl rfl | exact Or.inr rfl) (pe_callB (cr_max rfl) rfl T.max (by decide +kernel) (pa_cons (pv 2) pa_nil)))
      (pss_one (ps_ret (pe_callTy call_tuple_of rfl T.tuple (by decide +kernel) (pa_cons (pe_lc (own := [("number", 3), ("reached", 5)]) rfl scHighest.nd (pi_zipM rfl T.zip (pa_cons (pv 1) (pa_cons (pv 2) pa_nil))) (blkOk_by (N := ["book", "numbers", "ranks", "number", "best", "reached"]) (sc := defScope sHighest) (by decide +kernel)) (fun _ _ _ _ _ => (show PG _ _ (gTup K 2 _) from pg_tup rfl (pgs_cons (pg_name (i := 3) scHighest.nd rfl (by first | exact Or.inl rfl | exact Or.inr rfl)) (pgs_cons (pg_name (i := 5) scHighest.nd rfl (by first | exact Or.inl rfl | exact Or.inr rfl)) pgs_nil)))) (fun _ _ _ _ _ => pts_one (pt_cmpR op_eq (pv 5) (pv 4) (nomark _))) (fun _ _ _ _ _ => (pv 3))) pa_nil)))))), ?_⟩
    have hq : H q = some (.tup ((nat2 js).map V.int)) := hq
    refine ⟨fun σ' H1 => Same H H1 ∧ ∃ D : Addr, H1 D = some (.lst ((js.map (rkA man ws es)).map V.int)) ∧ σ' = [some (.ref b), some (.ref q), some (.ref D), none, none, none], ?_, ?_⟩
    · refine ⟨_, rfl, q, rfl, ⟨_, sqT hq⟩, fun D hD => ?_⟩
      refine lc_tup (K := K) (a := q) (xs := (nat2 js).map V.int) (fun i H4 => Same H H4 ∧ H4 D = some (.lst (((js.take i).map (rkA man ws es)).map V.int))) ⟨Same.new hD, upd_same⟩ (fun i H4 _ ⟨s4, _⟩ => sqT (s4 _ _ hq)) ?_ ?_
      · rintro i y H4 hi ⟨sm, e4⟩
        obtain ⟨j, hj, rfl⟩ := num_of hi
        have hj40 := (List.getElem?_eq_some_iff.mp hj).1
        refine ⟨rfl, _, rfl, _, rfl, b, man, ws, es, j, rfl, bs.same sm, hlt j (List.mem_of_getElem? hj), fun H5 s5 => ?_⟩
        refine ⟨_, s5 _ _ e4, by rw [List.length_map, List.length_map, List.length_take]; exact small1000 (by omega), fun b o h => by rw [upd_ne (ne_of_none h hD)]; exact s5 _ _ (sm b o h), ?_⟩
        rw [upd_same, take_map hj, List.map_append]
        rfl
      · rintro H4 ⟨sm, e4⟩
        rw [List.length_map, nat2_len, List.take_length] at e4
        exact ⟨sm, D, e4, rfl⟩
    rintro σ' H1 ⟨s1, D, eD, rfl⟩
    refine ⟨fun σ' H2 => H2 = H1 ∧ ∃ m : Int, IsMax js (rkA man ws es) m ∧ σ' = [some (.ref b), some (.ref q), some (.ref D), none, some (.int m), none], ?_, ?_⟩
    · refine ⟨_, rfl, D, _, rfl, SqL.of eD, by rw [List.length_map]; exact List.length_pos_iff.mpr hne, fun m hm hle => ?_⟩
      refine ⟨rfl, m, ⟨?_, fun j hj => hle _ (List.mem_map_of_mem hj)⟩, rfl⟩
      obtain ⟨j, hj, e⟩ := List.mem_map.mp hm
      exact ⟨j, hj, e⟩
    rintro σ' H2 ⟨rfl, m, M, rfl⟩
    have hq2 := s1 _ _ hq
    have ll : ((nat2 js).map V.int).length = ((js.map (rkA man ws es)).map V.int).length := by rw [List.length_map, nat2_len, List.length_map, List.length_map]
    refine ⟨_, rfl, _, rfl, q, D, _, _, rfl, ⟨sqT hq2, SqL.of eD⟩, fun L hL => ?_⟩
    refine lc_it (walk_zipM (K := K) (a := q) (b := D) ll) (fun i H4 => Same H2 H4 ∧ H4 L = some (.lst ((nat2 ((js.take i).filter fun j => decide (rkA man ws es j = m))).map V.int))) ⟨Same.new hL, upd_same⟩ (fun i H4 _ ⟨s4, _⟩ => ⟨sqT (s4 _ _ hq2), SqL.of (s4 _ _ eD)⟩) ?_ ?_
    · rintro i x H4 H5 hi ⟨sm, e4⟩ ⟨t, x1, x2, rfl, ht, rfl, hx1, hx2⟩
      obtain ⟨j, hj, rfl⟩ := num_of hx1
      obtain ⟨z, hz, rfl⟩ := int_of hx2
      rw [List.getElem?_map, hj] at hz
      obtain rfl : rkA man ws es j = z := Option.some.inj hz
      have s5 : Same H4 (upd H4 t (.tup [.int (j : Int), .int (rkA man ws es j)])) := Same.new ht
      have et : (upd H4 t (.tup [.int (j : Int), .int (rkA man ws es j)])) t = some (.tup [.int (j : Int), .int (rkA man ws es j)]) := upd_same
      generalize upd H4 t (.tup [.int (j : Int), .int (rkA man ws es j)]) = H5 at *
      have e5 := s5 _ _ e4
      have hj40 := (List.getElem?_eq_some_iff.mp hj).1
      refine ⟨t, _, rfl, sqT et, rfl, _, _, rfl, _, _, rfl, rfl, rfl, ?_⟩
      refine ⟨_, rfl, _, rfl, rfl, _, rfl, ?_⟩
      have dd : decide (V.int (rkA man ws es j) = V.int m) = decide (rkA man ws es j = m) := by
        rw [Bool.eq_iff_iff, decide_eq_true_iff, decide_eq_true_iff]
        exact ⟨fun h => V.int.inj h, fun h => by rw [h]⟩
      rw [dd]
      refine ite2 (fun hn => ?_) (fun hn => ?_)
      · refine ⟨_, rfl, _, e5, ?_, fun b o h => by rw [upd_ne (ne_of_none h hL)]; exact s5 _ _ (sm b o h), ?_⟩
        · rw [List.length_map, nat2_len]
          exact small1000 (Nat.le_trans (List.length_filter_le _ _) (by rw [List.length_take]; omega))
        · rw [upd_same, filt_snoc hj, if_pos hn, nat2_app, List.map_append]
          rfl
      · refine ⟨sm.trans s5, ?_⟩
        rw [e5, filt_snoc hj, if_neg hn, List.append_nil]
    · rintro H4 ⟨sm, e4⟩
      rw [List.length_map, nat2_len, List.take_length] at e4
      refine ⟨L, _, rfl, .inl ⟨SqL.of e4, fun t ht => ?_⟩⟩
      exact k t m _ M upd_same ((s1.trans sm).trans (Same.new ht))
abbrev sHoldsAll : Stmt := top 37
theorem scHoldsAll : FnScope ["book", "number", "numbers", "marks", "other"] ["book", "number", "numbers"] (defScope sHoldsAll) := ⟨rfl, rfl, rfl, by decide +kernel, rfl, by decide +kernel, by decide +kernel⟩

theorem ok_holds {f C aM : Addr} {fd : FuncData} (F : Fun K "_holds_all" "_holds_all" sHoldsAll f fd) (T : Txt mg) (B : BkTxt K mg C aM) (HL : Has P w K mg base "lies_within" ["inner", "outer"] 1 spLies) : FnOk P w K mg base CX0 2 f fd ["book", "number", "numbers"] (spHolds C) := by
  refine F.ok scHoldsAll (fun vs H Q E h => ?_) (fun cdv A outer s H vs Q E hr h => ?_)
  · obtain ⟨b, q, man, ws, es, js, n, rfl, _⟩ := h
    rfl
  · obtain ⟨b, q, man, ws, es, js, n, rfl, ⟨⟨p, wt, ys, ⟨dx, hb⟩, hp, ents, hw⟩, ok, hl⟩, hq, hlt, hn, hjl, k⟩ := h
    refine ⟨_, (pss_cons (ps_set (i := 3) scHoldsAll.nd rfl (by first | exact Or.inl rfl | exact Or.inr rfl) (pe_ix ix_tup (pe_ix ix_tup (pe_fld (pv 0) rfl) (pv 1) (fun _ _ => rfl)) pe_int (fun _ _ => rfl)))
      (pss_one (ps_ret (pe_callB (cr_all rfl) rfl T.all (by decide +kernel) (pa_cons (pe_lc (own := [("other", 4)]) rfl scHoldsAll.nd (pi_tup (pv 2)) (blkOk_by (N := ["book", "number", "numbers", "marks", "other"]) (sc := defScope sHoldsAll) (by decide +kernel)) (fun _ _ _ _ _ => (pg_name (i := 4) scHoldsAll.nd rfl (by first | exact Or.inl rfl | exact Or.inr rfl))) (fun _ _ _ _ _ => pts_nil) (fun _ _ _ _ _ => (pe_callH HL (hr.mono (by decide)) rfl (pa_cons (pe_ix (show IxR _ (rIxT K) from ix_tup) (pe_ix (show IxR _ (rIxT K) from ix_tup) (show PE _ _ (tFld K _ _) from pe_fld (pv 0) rfl) (pv 4) (fun _ _ => rfl)) pe_int (fun _ _ => rfl)) (pa_cons (pv 3) pa_nil))))) pa_nil))))), ?_⟩
    have hq : H q = some (.tup ((nat2 js).map V.int)) := hq
    obtain ⟨r, u, e, hy, hr0, mu, he⟩ := ent_at ents hn
    refine ⟨_, rfl, b, C, dx, _, _, rfl, hb, B.cl, B.nE, bf_entries _ _ _, _, rfl, p, _, _, _, rfl, rfl, sqT hp, at_of (j := n) rfl hy, r, _, _, _, rfl, rfl, sqT hr0, at_of (j := 0) rfl rfl, ?_⟩
    refine ⟨_, rfl, q, rfl, ⟨_, sqT hq⟩, fun D hD => ?_⟩
    refine lc_tup (K := K) (a := q) (xs := (nat2 js).map V.int) (fun i H4 => Same H H4 ∧ H4 D = some (.lst (((js.take i).map fun o => inside (mkA es o) (mkA es n)).map V.bl))) ⟨Same.new hD, upd_same⟩ (fun i H4 _ ⟨s4, _⟩ => sqT (s4 _ _ hq)) ?_ ?_
    · rintro i y H4 hi ⟨sm, e4⟩
      obtain ⟨j, hj, rfl⟩ := num_of hi
      have hj40 := (List.getElem?_eq_some_iff.mp hj).1
      obtain ⟨r1, u1, e1, hy1, hr1, mu1, he1⟩ := ent_at ents (hlt j (List.mem_of_getElem? hj))
      refine ⟨rfl, _, rfl, b, C, dx, _, _, rfl, sm _ _ hb, B.cl, B.nE, bf_entries _ _ _, _, rfl, p, _, _, _, rfl, rfl, sqT (sm _ _ hp), at_of (j := j) rfl hy1, r1, _, _, _, rfl, rfl, sqT (sm _ _ hr1), at_of (j := 0) rfl rfl, _, rfl, u1, u, e1.1, e.1, rfl, Tup.keep (TFr.same sm) mu1, Tup.keep (TFr.same sm) mu, ?_⟩
      refine ⟨_, e4, by rw [List.length_map, List.length_map, List.length_take]; exact small1000 (by omega), fun b o h => by rw [upd_ne (ne_of_none h hD)]; exact sm b o h, ?_⟩
      rw [upd_same, take_map hj, List.map_append, mkA_at he1, mkA_at he]
      rfl
    · rintro H4 ⟨sm, e4⟩
      rw [List.length_map, nat2_len, List.take_length] at e4
      refine ⟨D, _, rfl, SqL.of e4, ?_⟩
      have ee : (js.map fun o => inside (mkA es o) (mkA es n)).all id = holds es js n := by
        unfold holds
        rw [List.all_map]
        rfl
      rw [ee]
      exact k H4 sm
abbrev sSpeaking : Stmt := top 36
theorem scSpeaking : FnScope ["book", "numbers", "highest"] ["book", "numbers"] (defScope sSpeaking) := ⟨rfl, rfl, rfl, by decide +kernel, rfl, by decide +kernel, by decide +kernel⟩

theorem man3_row {man : Str} (h : Man3 man) : man ≠ "row" := by
  rcases h with rfl | rfl | rfl <;> decide +kernel
theorem ok_speaking {f C aM : Addr} {fd : FuncData} (F : Fun K "speaking" "speaking" sSpeaking f fd) (T : Txt mg) (B : BkTxt K mg C aM) (HH : Has P w K mg base "_highest" ["book", "numbers"] 2 (spHighest C)) (HO : Has P w K mg base "_holds_all" ["book", "number", "numbers"] 2 (spHolds C)) :
    FnOk P w K mg base CX0 3 f fd ["book", "numbers"] (spSpeaking C) := by
  refine F.ok scSpeaking (fun vs H Q E h => ?_) (fun cdv A outer s H vs Q E hr h => ?_)
  · obtain ⟨b, q, man, ws, es, js, rfl, _⟩ := h
    rfl
  · obtain ⟨b, q, man, ws, es, js, rfl, bs, hman, hq, hlt, hnd, hjl, k⟩ := h
    refine ⟨_, (pss_cons (ps_if (pt_not (pt_truth (pv 1) (fun _ => rfl))) (pss_one (ps_ret pe_non)) pss_nil)
      (pss_cons (ps_if (pt_cmpR op_eq (pe_fld (pv 0) rfl) pe_str (nomark _)) (pss_one ps_never) pss_nil)
      (pss_cons (ps_set (i := 2) scSpeaking.nd rfl (by first | exact Or.inl rfl | exact Or.inr rfl) (pe_callH HH (hr.mono (by decide)) rfl (pa_cons (pv 0) (pa_cons (pv 1) pa_nil))))
      (pss_cons (ps_if (pt_cmpR op_gt (pe_callB call_len rfl T.len PySem.boot_len (pa_cons (pv 2) pa_nil)) pe_int (nomark _)) (pss_one (ps_ret pe_non)) pss_nil)
      (pss_cons (ps_if (PW.pt (pw_and (pt_cmpR op_eq (pe_fld (pv 0) rfl) pe_str (nomark _)) (pw_and1 (pt_not (pt_val (pe_callH HO (hr.mono (by decide)) rfl (pa_cons (pv 0) (pa_cons (pe_ix ix_tup (pv 2) pe_int (fun _ _ => rfl)) (pa_cons (pv 1) pa_nil))))))))) (pss_one (ps_ret pe_non)) pss_nil)
      (pss_one (ps_ret (pe_ix ix_tup (pv 2) pe_int (fun _ _ => rfl))))))))), ?_⟩
    obtain ⟨p, wt, ys, ⟨dx, hb⟩, hp, ents, hw⟩ := bs.ex
    have hq : H q = some (.tup ((nat2 js).map V.int)) := hq
    refine ⟨_, rfl, _, .inr (.inl ⟨_, sqT hq, rfl⟩), ?_⟩
    by_cases hne : js = []
    · subst hne
      exact iteT (k H (Same.refl H))
    have ne1 : (!!((nat2 js).map V.int).isEmpty) = false := by
      cases js with
      | nil => exact absurd rfl hne
      | cons j r => rfl
    refine ite2 (fun hf => ?_) (fun _ => ?_)
    · have hf' : (!!((nat2 js).map V.int).isEmpty) = true := hf
      rw [ne1] at hf'
      cases hf'
    refine ⟨_, rfl, b, C, dx, _, _, rfl, hb, B.cl, B.nM, bf_manner _ _ _, rfl, _, rfl, ?_⟩
    refine ite2 (fun hf => absurd (V.str.inj (of_decide_eq_true hf)) (man3_row hman)) (fun _ => ?_)
    refine ⟨_, rfl, _, rfl, b, q, man, ws, es, js, rfl, bs, hq, hlt, hne, hjl, fun t m H1 M ht s1 => ?_⟩
    have ht1 : H1 t = some (.tup ((nat2 (hi js (rkA man ws es) m)).map V.int)) := ht
    clear ht
    have hb1 := s1 _ _ hb
    refine ⟨_, rfl, _, _, rfl, .inr ⟨_, sqT ht1, rfl⟩, _, _, rfl, rfl, _, rfl, ?_⟩
    by_cases hmany : 1 < (hi js (rkA man ws es) m).length
    · refine ite2 (fun _ => ?_) (fun hf => ?_)
      · have e := lawRes_qua (beatA_ok man ws es) hnd hne (many_noWin hnd M hmany)
        rw [e] at k
        exact k H1 s1
      · refine absurd (decide_eq_true ?_) hf
        rw [List.length_map, nat2_len]
        omega
    have hone : ∃ n, hi js (rkA man ws es) m = [n] := by
      have := hi_ne M
      match hh : hi js (rkA man ws es) m with
      | [] => exact absurd hh this
      | [n] => exact ⟨n, rfl⟩
      | x :: y :: r => rw [hh] at hmany; simp at hmany
    obtain ⟨n, hn⟩ := hone
    have hnj := (hi_one M hn).1
    refine ite2 (fun hf => ?_) (fun _ => ?_)
    · have := of_decide_eq_true hf
      rw [List.length_map, nat2_len] at this
      omega
    rw [hn] at ht1
    refine ⟨_, rfl, b, C, dx, _, _, rfl, hb1, B.cl, B.nM, bf_manner _ _ _, rfl, _, rfl, ?_⟩
    by_cases hm : man = "within"
    · subst hm
      refine ite2 (fun _ => ?_) (fun hf => absurd (decide_eq_true rfl) hf)
      refine ⟨_, rfl, _, rfl, t, _, _, _, rfl, rfl, sqT ht1, at_of (j := 0) rfl rfl, _, rfl, b, q, "within", ws, es, js, n, rfl, bs.same s1, s1 _ _ hq, hlt, hlt n hnj, hjl, fun H2 s2 => ⟨_, rfl, ?_⟩⟩
      cases hh : holds es js n with
      | false =>
        refine iteT ?_
        have e := lawRes_qua (beatA_ok "within" ws es) hnd hne (within_noWin M hn hh)
        rw [e] at k
        exact k H2 (s1.trans s2)
      | true =>
        refine iteF ?_
        have e := lawRes_ent (beatA_ok "within" ws es) hnd (within_Win M hn hh)
        rw [e] at k
        exact ⟨_, rfl, t, _, _, _, rfl, rfl, sqT (s2 _ _ ht1), at_of (j := 0) rfl rfl, k H2 (s1.trans s2)⟩
    · refine ite2 (fun hf => absurd (V.str.inj (of_decide_eq_true hf)) hm) (fun _ => ?_)
      refine iteF ?_
      have e := lawRes_ent (beatA_ok man ws es) hnd (one_Win hm M hn)
      rw [e] at k
      exact ⟨_, rfl, t, _, _, _, rfl, rfl, sqT ht1, at_of (j := 0) rfl rfl, k H1 s1⟩
end
end Xci

namespace Xci
open PySem L2
section
variable {P : Program} {w : World} {K : PySem.W.Frag} {mg : Str → Option Value} {base : Heap}
theorem ok_speakingRow {f C aM : Addr} {fd : FuncData} (F : Fun K "speaking" "speaking" sSpeaking f fd) (B : BkTxt K mg C aM) : FnOk P w K mg base CX0 1 f fd ["book", "numbers"] (spSpeakingRow C) := by
  refine F.ok scSpeaking (fun vs H Q E h => ?_) (fun cdv A outer s H vs Q E hr h => ?_)
  · obtain ⟨b, p, q, wt, js, rfl, _⟩ := h
    rfl
  · obtain ⟨b, p, q, wt, js, rfl, ⟨dx, hb⟩, hq, k⟩ := h
    refine ⟨_, (pss_cons (ps_if (pt_not (pt_truth (pv 1) (fun _ => rfl))) (pss_one (ps_ret pe_non)) pss_nil)
      (pss_cons (ps_if (pt_cmpR op_eq (pe_fld (pv 0) rfl) pe_str (nomark _)) (pss_one (ps_ret (pe_ix ix_tup (pv 1) pe_int (fun _ _ => rfl)))) pss_nil)
      pss_never)), ?_⟩
    refine ⟨_, rfl, _, .inr (.inl ⟨_, sqT hq, rfl⟩), ?_⟩
    cases js with
    | nil => exact iteT k
    | cons j r =>
      refine iteF ?_
      refine ⟨_, rfl, b, C, dx, _, _, rfl, hb, B.cl, B.nM, bf_manner _ _ _, rfl, _, rfl, ?_⟩
      refine ite2 (fun _ => ?_) (fun hf => absurd (decide_eq_true rfl) hf)
      exact ⟨_, rfl, q, _, _, _, rfl, rfl, sqT hq, at_of (j := 0) rfl rfl, k⟩
/-- which one of the fitting entries speaks, in any manner -/
def spWho (C : Addr) : Sp := fun vs H Q _ => ∃ (b q : Addr) (man : Str) (ws : List Int) (es : List Ent) (ms : List Int), vs = [.ref b, .ref q] ∧ BookSt C H b man ws es ∧ Man man ∧ Nums H q (fitN es ms) ∧ ∀ H', Same H H' → Q (numV (whoN man ws es ms)) H'
theorem ok_who {f C : Addr} {fd : FuncData} (g : FnOk P w K mg base CX0 3 f fd ["book", "numbers"] (spSpeaking C)) (g' : FnOk P w K mg base CX0 1 f fd ["book", "numbers"] (spSpeakingRow C)) : FnOk P w K mg base CX0 3 f fd ["book", "numbers"] (spWho C) :=
  ok_imp (ok_both g (g'.mono (by decide))) fun vs H Q E ⟨b, q, man, ws, es, ms, e, bs, hm, hq, k⟩ => by
    subst e
    rcases n_row3 hm with rfl | ⟨hn, h3⟩
    · obtain ⟨p, wt, ys, hb, _⟩ := bs.ex
      refine .inr ⟨b, p, q, wt, fitN es ms, rfl, hb, hq, ?_⟩
      rw [← who_row ws]
      exact k H (Same.refl H)
    · refine .inl ⟨b, q, man, ws, es, fitN es ms, rfl, bs, h3, hq, fit_lt, fit_nd _ _, Nat.le_trans (fitN_len es ms) bs.len, fun H' s => ?_⟩
      rw [← who_res hn]
      exact k H' s
def spHeardN (C : Addr) : Sp := fun vs H Q _ => ∃ (b q : Addr) (man : Str) (ws : List Int) (es : List Ent) (ms : List Int), vs = [.ref b, .ref q] ∧ BookSt C H b man ws es ∧ Man man ∧ Nums H q (fitN es ms) ∧ ∀ H', Same H H' → Q (formV (heard man ws es ms)) H'
abbrev sFormAmong : Stmt := top 38
theorem scFormAmong : FnScope ["book", "numbers", "number"] ["book", "numbers"] (defScope sFormAmong) := ⟨rfl, rfl, rfl, by decide +kernel, rfl, by decide +kernel, by decide +kernel⟩

theorem ok_among {f C aM : Addr} {fd : FuncData} (F : Fun K "form_among" "form_among" sFormAmong f fd) (B : BkTxt K mg C aM) (HSp : Has P w K mg base "speaking" ["book", "numbers"] 3 (spWho C)) : FnOk P w K mg base CX0 4 f fd ["book", "numbers"] (spHeardN C) := by
  refine F.ok scFormAmong (fun vs H Q E h => ?_) (fun cdv A outer s H vs Q E hr h => ?_)
  · obtain ⟨b, q, man, ws, es, ms, rfl, _⟩ := h
    rfl
  · obtain ⟨b, q, man, ws, es, ms, rfl, bs, hm, hq, k⟩ := h
    refine ⟨_, (pss_cons (ps_set (i := 2) scFormAmong.nd rfl (by first | exact Or.inl rfl | exact Or.inr rfl) (pe_callH HSp (hr.mono (by decide)) rfl (pa_cons (pv 0) (pa_cons (pv 1) pa_nil))))
      (pss_one (ps_ret (pe_ifExp (pt_cmpR op_isN (pv 2) pe_non (nomark _)) pe_non (pe_ix ix_tup (pe_ix ix_tup (pe_fld (pv 0) rfl) (pv 2) (fun _ _ => rfl)) pe_int (fun _ _ => rfl)))))), ?_⟩
    refine ⟨_, rfl, _, rfl, b, q, man, ws, es, ms, rfl, bs, hm, hq, fun H1 s1 => ?_⟩
    obtain ⟨p, wt, ys, ⟨dx, hb⟩, hp, ents, _⟩ := (bs.same s1).ex
    have k1 := k H1 s1
    cases hw : whoN man ws es ms with
    | none =>
      rw [heard_non hw] at k1
      refine ⟨_, rfl, rfl, _, rfl, ?_⟩
      refine iteT ?_
      exact k1
    | some j =>
      obtain ⟨r, u, e, hy, hr0, mu, he⟩ := ent_at ents (who_lt hw)
      rw [heard_at hw he] at k1
      refine ⟨_, rfl, rfl, _, rfl, ?_⟩
      refine iteF ?_
      exact ⟨_, rfl, b, C, dx, _, _, rfl, hb, B.cl, B.nE, bf_entries _ _ _, _, rfl, p, _, _, _, rfl, rfl, sqT hp, at_of (j := j) rfl hy, r, _, _, _, rfl, rfl, sqT hr0, at_of (j := 1) rfl rfl, k1⟩
def spHeard (C : Addr) : Sp := fun vs H Q _ => ∃ (b : Addr) (v : V) (man : Str) (ws : List Int) (es : List Ent) (ms : List Int), vs = [.ref b, v] ∧ BookSt C H b man ws es ∧ Man man ∧ Xci.Mk H v ms ∧ MarksOk 6 ms ∧ ∀ H', Same H H' → Q (formV (heard man ws es ms)) H'
abbrev sFormAt : Stmt := top 39
theorem scFormAt : FnScope ["book", "cell"] ["book", "cell"] (defScope sFormAt) := ⟨rfl, rfl, rfl, by decide +kernel, rfl, by decide +kernel, by decide +kernel⟩

theorem ok_formAt {f C : Addr} {fd : FuncData} (F : Fun K "_form_at" "_form_at" sFormAt f fd) (HFi : Has P w K mg base "fitting" ["book", "cell"] 4 (spFitting C)) (HAm : Has P w K mg base "form_among" ["book", "numbers"] 4 (spHeardN C)) : FnOk P w K mg base CX0 5 f fd ["book", "cell"] (spHeard C) := by
  refine F.ok scFormAt (fun vs H Q E h => ?_) (fun cdv A outer s H vs Q E hr h => ?_)
  · obtain ⟨b, v, man, ws, es, ms, rfl, _⟩ := h
    rfl
  · obtain ⟨b, v, man, ws, es, ms, rfl, bs, hm, mv, mok, k⟩ := h
    refine ⟨_, (pss_one (ps_ret (pe_callH HAm (hr.mono (by decide)) rfl (pa_cons (pv 0) (pa_cons (pe_callH HFi (hr.mono (by decide)) rfl (pa_cons (pv 0) (pa_cons (pv 1) pa_nil))) pa_nil))))), ?_⟩
    obtain ⟨p, wt, ys, hb, hp, ents, _⟩ := bs.ex
    refine ⟨_, rfl, _, rfl, _, rfl, b, p, man, wt, v, ys, es, ms, rfl, hb, hp, ents, bs.ok, bs.len, mv, mok, fun q H1 hq s1 => ?_⟩
    exact ⟨b, q, man, ws, es, ms, rfl, bs.same s1, hm, hq, fun H2 s2 => k H2 (s1.trans s2)⟩
end
end Xci

namespace Xci
open PySem L2
section
variable {P : Program} {w : World} {K : PySem.W.Frag} {mg : Str → Option Value} {base : Heap}
theorem walk_zipT {K : PySem.W.Frag} {a b : Addr} {xs ys : List V} (hl : xs.length = ys.length) : Walk (RZ.ItzT K a b) xs.length (fun H => SqT K H a xs ∧ SqT K H b ys) (fun i H v H' => ∃ T x y, v = .ref T ∧ H T = none ∧ H' = upd H T (.tup [x, y]) ∧ xs[i]? = some x ∧ ys[i]? = some y) :=
  ⟨fun i H hi q => ⟨xs, ys, xs[i], ys[i]'(hl ▸ hi), q.1, q.2, List.getElem?_eq_getElem hi, List.getElem?_eq_getElem (hl ▸ hi)⟩, fun H q => ⟨xs, ys, q.1, q.2, .inl (Nat.le_refl _)⟩, fun i H v H' hi q ⟨T, x, y, e1, e2, e3, f, g⟩ => ⟨T, x, y, e1, e2, e3, f xs q.1, g ys q.2⟩⟩
/-- what tells that an instance is one of its class -/
structure ClsTy (K : PySem.W.Frag) (C : Addr) : Prop where
  cl : Cls K C
  ha : PySem.W.findIn K (.ref C) "__class__" = some (some (.builtin "object.__class__"))
  hn : PySem.W.specialIn K (.builtin "object.__class__") "__get__" = some (some (.builtin "getset_descriptor.__get__"))
  htk : PySem.W.takesIn K (.builtin "object.__class__") = some true
  hm : PySem.W.mroIn K C (.type "object") = some true
theorem ClsTy.is {C a dx : Addr} {fs : List (Str × V)} {H : Hp} (c : ClsTy K C) (h : H a = some (.ins C dx fs)) : TyX K H (.ref a) (.ref C) := .base (.ins h c.cl c.ha c.hn c.htk c.hm)
theorem kit_own (C : Addr) : PySem.W.kitOne K (.ref C) (.ref C) = some true := by
  unfold PySem.W.kitOne
  rw [if_pos (beq_self_eq_true _)]
/-- one family, told by the same tuple of cells -/
def FamSame (CF : Addr) (a b : Addr) (H : Hp) : Prop := ∃ (many : Int) (p : Addr) (ys : List V) (cells : List (List Int)), FamAt CF H a many p ∧ FamAt CF H b many p ∧ H p = some (.tup ys) ∧ Mks H ys cells
theorem dp_rowsT {H : Hp} : ∀ {ys : List V} {cs : List (List Int)}, Mks H ys cs → DpAll K H ys (cs.map fun c => PyData.tuple (c.map PyData.int))
  | _, _, .nil => .nil
  | _, _, .cons m r => .cons (dp_marks m) (dp_rowsT r)
theorem sh_rowsT (cs : List (List Int)) : SeqAt.shaped (.tuple (cs.map fun c => PyData.tuple (c.map PyData.int))) = true := by
  obtain ⟨a, b⟩ := lay_rows cs
  have d : PyData.depth (.tuple (cs.map fun c => PyData.tuple (c.map PyData.int))) ≤ 64 := by
    simp only [PyData.depth]
    omega
  unfold SeqAt.shaped
  rw [decide_eq_true d, Bool.and_true]
  simpa [PyData.canLay0] using a
abbrev sFamilyEq : Stmt := inClass (top 58) 1
theorem scFamilyEq : FnScope ["self", "other"] ["self", "other"] (defScope sFamilyEq) := ⟨rfl, rfl, rfl, by decide +kernel, rfl, by decide +kernel, by decide +kernel⟩

theorem ok_famEq {f C : Addr} {fd : FuncData} (F : Fun K "__eq__" "Family.__eq__" sFamilyEq f fd) (T : Txt mg) (FT : FamTxt K mg C) (CT : ClsTy K C) : FnOk P w K mg base CX0 1 f fd ["self", "other"] (spEq (FamSame C)) := by
  refine F.ok scFamilyEq (fun vs H Q E h => ?_) (fun cdv A outer s H vs Q E hr h => ?_)
  · obtain ⟨a, b, rfl, _⟩ := h
    rfl
  · obtain ⟨a, b, rfl, ⟨many, p, ys, cells, ⟨dx, ha⟩, ⟨dy, hb⟩, hp, ms⟩, k⟩ := h
    refine ⟨_, (pss_one (ps_ret (pe_and (pe_callB call_isi rfl T.isinstance (by decide +kernel) (pa_cons (pv 1) (pa_cons (pe_glob (v := .ref C) rfl FT.mgC rfl) pa_nil))) (pe_and (pe_cmpR op_eq (pe_fld (pv 0) rfl) (pe_fld (pv 1) rfl) (nomark _)) (pe_one (pe_cmpR (op_eqD (hu64 hr)) (pe_fld (pv 0) rfl) (pe_fld (pv 1) rfl) (nomark _))))))), ?_⟩
    refine ⟨_, rfl, _, _, _, _, true, rfl, .own C, CT.is hb, kit_own C, _, rfl, ?_⟩
    refine ⟨_, rfl, a, C, dx, _, _, rfl, ha, FT.cl, FT.nM, famF_many _ _, _, rfl, b, C, dy, _, _, rfl, hb, FT.cl, FT.nM, famF_many _ _, rfl, _, rfl, ?_⟩
    refine ite2 (fun _ => ?_) (fun hf => absurd (decide_eq_true rfl) hf)
    refine ⟨_, rfl, a, C, dx, _, _, rfl, ha, FT.cl, FT.nC, famF_cells _ _, _, rfl, b, C, dy, _, _, rfl, hb, FT.cl, FT.nC, famF_cells _ _, ?_⟩
    refine ⟨_, _, .tup (sqT hp) (dp_rowsT ms), .tup (sqT hp) (dp_rowsT ms), sh_rowsT _, sh_rowsT _, ?_⟩
    rw [eqv_same (sh_rowsT cells)]
    exact k H Ext.rfl'
/-- the own == of a class -/
structure HasE (P : Program) (w : World) (K : PySem.W.Frag) (mg : Str → Option Value) (base : Heap) (C : Addr) (k : Nat) (R : Addr → Addr → Hp → Prop) : Prop where
  ex : ∃ (f : Addr) (fd : FuncData), FnOk P w K mg base CX0 k f fd ["self", "other"] (spEq R) ∧ PySem.W.findIn K (.ref C) "__eq__" = some (some (.ref f)) ∧ PySem.W.isFn K (.ref f) = true ∧ Binds K fd ["self", "other"] []
theorem op_eqH {X : Cx} {C : Addr} {k : Nat} {R : Addr → Addr → Hp → Prop} (h : HasE X.prog X.w X.K X.mg X.base C k R) (hr : Room k X.A) : OpR X (compareOp .Eq) (rEqG (DIns C R)) := by
  obtain ⟨f, fd, F, e, i, b⟩ := h.ex
  exact op_eqG (rcG_ins F e i b pass0) hr
def spLimited (CF C : Addr) : Sp := fun vs H Q _ => ∃ (fam p : Addr) (many : Int) (pc : Addr) (ys : List V) (fs : List (Option Str)), vs = [.ref fam, .ref p] ∧ FamAt CF H fam many pc ∧ H pc = some (.tup ys) ∧ H p = some (.tup (fs.map formV)) ∧ FormsOk ys.length fs ∧
  ∀ (t : Addr) (H' : Hp), TabAt C H' t fam p → Same H H' → Q (.ref t) H'
def spMakes (CF C CB : Addr) : Sp := fun vs H Q _ => ∃ (b t fam p : Addr) (man : Str) (ws : List Int) (es : List Ent) (many : Int) (pc : Addr) (cy : List V) (cells : List (List Int)) (fs : List (Option Str)), vs = [.ref b, .ref t] ∧ BookSt CB H b man ws es ∧ Man man ∧ TabAt C H t fam p ∧ H p = some (.tup (fs.map formV)) ∧
  FamAt CF H fam many pc ∧ H pc = some (.tup cy) ∧ Mks H cy cells ∧ FamOk many cells ∧ fs.length = cells.length ∧ ∀ H' : Hp, Same H H' → Q (.bl (agree fs (heardAll man ws es cells) cells.length)) H'
abbrev sMakes : Stmt := top 40
theorem scMakes : FnScope ["book", "table", "cell", "form"] ["book", "table"] (defScope sMakes) := ⟨rfl, rfl, rfl, by decide +kernel, rfl, by decide +kernel, by decide +kernel⟩

theorem ok_makes {f C CF CB : Addr} {fd : FuncData} (F : Fun K "makes" "makes" sMakes f fd) (T : Txt mg) (FT : FamTxt K mg CF) (TT : TabTxt K mg C) (HFA : Has P w K mg base "_form_at" ["book", "cell"] 5 (spHeard CB)) :
    FnOk P w K mg base CX0 6 f fd ["book", "table"] (spMakes CF C CB) := by
  refine F.ok scMakes (fun vs H Q E h => ?_) (fun cdv A outer s H vs Q E hr h => ?_)
  · obtain ⟨b, t, fam, p, man, ws, es, many, pc, cy, cells, fs, rfl, _⟩ := h
    rfl
  · obtain ⟨b, t, fam, p, man, ws, es, many, pc, cy, cells, fs, rfl, bs, hm, ⟨dt, ht⟩, hp, ⟨df, hf⟩, cp, cm, fok, fl, k⟩ := h
    refine ⟨_, (pss_cons (ps_for PassesOwn.never rfl (RZ.pi_zipA rfl T.zip (pa_cons (pe_fld (pe_fld (pv 1) rfl) rfl) (pa_cons (pe_fld (pv 1) rfl) pa_nil))) (pg_tup rfl (pgs_cons (pg_name (i := 2) scMakes.nd rfl (by first | exact Or.inl rfl | exact Or.inr rfl)) (pgs_cons (pg_name (i := 3) scMakes.nd rfl (by first | exact Or.inl rfl | exact Or.inr rfl)) pgs_nil))) (pss_one (ps_if (PW.pt (pw_and (pt_cmpR op_notN (pv 3) pe_non (nomark _)) (pw_and1 (pt_cmpR op_ne (pe_callH HFA (hr.mono (by decide)) rfl (pa_cons (pv 0) (pa_cons (pv 2) pa_nil))) (pv 3) (nomark _))))) (pss_one (ps_ret pe_bl)) pss_nil)))
      (pss_one (ps_ret pe_bl))), ?_⟩
    have cyl : cy.length = cells.length := Paired.length cm
    have ll : cy.length = (fs.map formV).length := by rw [List.length_map]; omega
    refine ⟨_, rfl, t, C, dt, _, _, rfl, ht, TT.cl, TT.nF, tabF_family _ _, fam, CF, df, _, _, rfl, hf, FT.cl, FT.nC, famF_cells _ _, _, rfl, t, C, dt, _, _, rfl, ht, TT.cl, TT.nO, tabF_forms _ _, pc, p, cy, _, rfl, .inr ⟨sqT cp, sqT hp, ?_⟩⟩
    refine for_it (walk_zipT (K := K) (a := pc) (b := p) ll) (fun i σ H2 => Same H H2 ∧ agree fs (heardAll man ws es cells) i = true ∧ ∃ v2 v3 : Option V, σ = [some (.ref b), some (.ref t), v2, v3]) ⟨Same.refl H, rfl, none, none, rfl⟩ (fun i σ H2 _ ⟨s2, _⟩ => ⟨sqT (s2 _ _ cp), sqT (s2 _ _ hp)⟩) ?_ ?_
    · rintro i x σ H2 H3 hi ⟨s2, ag, v2, v3, rfl⟩ ⟨T0, x1, x2, rfl, hT, rfl, hx1, hx2⟩
      obtain ⟨c, hc, mc⟩ := Paired.get cm hx1
      rw [List.getElem?_map] at hx2
      obtain ⟨form, hfm, rfl⟩ := Option.map_eq_some_iff.mp hx2
      have lt := (List.getElem?_eq_some_iff.mp hc).1
      have s3 : Same H2 (upd H2 T0 (.tup [x1, formV form])) := Same.new hT
      have et : (upd H2 T0 (.tup [x1, formV form])) T0 = some (.tup [x1, formV form]) := upd_same
      generalize upd H2 T0 (.tup [x1, formV form]) = H3 at *
      have s13 := s2.trans s3
      have fa := fits1_at hfm (heardAll_at (man := man) (ws := ws) (es := es) hc)
      refine ⟨T0, _, rfl, sqT et, rfl, _, _, rfl, _, _, rfl, rfl, ?_⟩
      refine ⟨_, rfl, rfl, _, rfl, ?_⟩
      cases form with
      | none =>
        refine ite2 (fun no => ?_) (fun _ => iteF ⟨s13, by rw [agree_next, ag, fa]; rfl, _, _, rfl⟩)
        have no' : (!decide (V.non = V.non)) = true := no
        rw [decide_eq_true rfl] at no'
        cases no'
      | some z =>
        refine ite2 (fun _ => ?_) (fun no => absurd (show (!decide (V.str z = V.non)) = true by rw [decide_eq_false (fun q : V.str z = V.non => nomatch q)] <;> rfl) no)
        refine ⟨_, rfl, _, rfl, b, x1, man, ws, es, c, rfl, bs.same s13, hm, Tup.keep (TFr.same s13) mc, (fok.ok c (List.mem_of_getElem? hc)).le fok.hi, fun H5 s5 => ?_⟩
        refine ⟨_, rfl, forms_scal _ (some z), _, rfl, ?_⟩
        have e : decide (formV (heard man ws es c) = V.str z) = fits1 fs (heardAll man ws es cells) i := by
          rw [fa]
          refine (formV_eq (heard man ws es c) (some z)).trans ?_
          by_cases q : heard man ws es c = some z
          · simp [q]
          · have q' : ¬ some z = heard man ws es c := fun h => q h.symm
            simp [q, q']
        refine ite2 (fun ne => ?_) (fun eq => ?_)
        · have ne' : (!decide (formV (heard man ws es c) = V.str z)) = true := ne
          rw [e] at ne'
          have hh : fits1 fs (heardAll man ws es cells) i = false := by simpa using ne'
          rw [agree_no hh lt] at k
          exact k H5 (s13.trans s5)
        · have eq' : ¬ (!decide (formV (heard man ws es c) = V.str z)) = true := eq
          rw [e] at eq'
          have hh : fits1 fs (heardAll man ws es cells) i = true := by simpa using eq'
          exact ⟨s13.trans s5, by rw [agree_next, ag, hh]; rfl, _, _, rfl⟩
    · rintro σ H2 ⟨s2, ag, v2, v3, rfl⟩
      rw [cyl] at ag
      rw [ag] at k
      exact k H2 s2
end
end Xci

namespace Xci
open PySem L2
/-- whether the entries tell all told cells, by holding -/
def spWithinMk : Sp := fun vs H Q _ => ∃ (v : V) (many : Int) (pc pf : Addr) (cy : List V) (cells : List (List Int)) (fs : List (Option Str)) (p : Addr) (ys : List V) (es : List Ent), vs = [v, .ref p] ∧ PlotS H v many pc pf cy cells fs ∧ H p = some (.lst ys) ∧ Ents H ys es ∧ (∀ e ∈ es, e.1.length ≤ 6) ∧ es.length ≤ 12 ∧ ∀ H', Same H H' → Q (.bl (withinMk (rowsOf cells fs) es)) H'
theorem mk_false {rows : List (List Int × Str)} {es : List Ent} {r : List Int × Str} (hr : r ∈ rows) (h : ¬ holderX es r.1 = some r.2) : withinMk rows es = false := by
  unfold withinMk
  rw [List.all_eq_false]
  exact ⟨r, hr, fun e => h (of_decide_eq_true e)⟩
section
variable {P : Program} {w : World} {K : PySem.W.Frag} {mg : Str → Option Value} {base : Heap}
abbrev sLawWithinMakes : Stmt := top 81
theorem scLawWithinMakes : FnScope ["plot", "entries", "at"] ["plot", "entries"] (defScope sLawWithinMakes) := ⟨rfl, rfl, rfl, by decide +kernel, rfl, by decide +kernel, by decide +kernel⟩
set_option maxHeartbeats 4000000 in
theorem ok_withinMk {f : Addr} {fd : FuncData} (F : Fun K "_law_within_makes" "_law_within_makes" sLawWithinMakes f fd) (T : Txt mg) (HHo : Has P w K mg base "_law_holder" ["entries", "cell"] 2 spHolder) : FnOk P w K mg base CX0 3 f fd ["plot", "entries"] spWithinMk := by
  refine F.ok scLawWithinMakes (fun vs H Q E h => ?_) (fun cdv A outer s H vs Q E hr h => ?_)
  · obtain ⟨v, many, pc, pf, cy, cells, fs, p, ys, es, rfl, _⟩ := h
    rfl
  · obtain ⟨v, many, pc, pf, cy, cells, fs, p, ys, es, rfl, pl, hp, en, l6, l12, k⟩ := h
    obtain ⟨tp, rfl, htp⟩ := id pl.tup
    refine ⟨_, (pss_cons (ps_for PassesOwn.never rfl (pi_range1 rfl T.range (pa_cons (pe_callB call_len rfl T.len PySem.boot_len (pa_cons (pe_ix ix_tup (pv 0) pe_int (fun _ _ => rfl)) pa_nil)) pa_nil)) (pg_name (i := 2) scLawWithinMakes.nd rfl (by first | exact Or.inl rfl | exact Or.inr rfl)) (pss_one (ps_if (PW.pt (pw_and (pt_cmpR op_notN (pe_ix ix_tup (pe_ix ix_tup (pv 0) pe_int (fun _ _ => rfl)) (pv 2) (fun _ _ => rfl)) pe_non (nomark _)) (pw_and1 (pt_cmpR op_ne (pe_callH HHo (hr.mono (by decide)) rfl (pa_cons (pv 1) (pa_cons (pe_ix ix_tup (pe_ix ix_tup (pv 0) pe_int (fun _ _ => rfl)) (pv 2) (fun _ _ => rfl)) pa_nil))) (pe_ix ix_tup (pe_ix ix_tup (pv 0) pe_int (fun _ _ => rfl)) (pv 2) (fun _ _ => rfl)) (nomark _))))) (pss_one (ps_ret pe_bl)) pss_nil)))
      (pss_one (ps_ret pe_bl))), ?_⟩
    have lcy : cy.length = cells.length := Paired.length pl.cm
    have lfs := pl.forms.len
    have few := pl.fok.len
    refine ⟨_, rfl, tp, _, _, _, rfl, rfl, sqT htp, at_of (j := 1) rfl rfl, _, cy.length, rfl, .inr ⟨_, sqT pl.cp, rfl⟩, _, rfl, by omega, by omega, ?_⟩
    refine for_range (n := cy.length) (fun j σ H1 => Same H H1 ∧ (∀ i < j, ∀ c z, cells[i]? = some c → fs[i]? = some (some z) → holderX es c = some z) ∧ ∃ o2 : Option V, σ = [some (.ref tp), some (.ref p), o2]) ⟨Same.refl _, nofun, _, rfl⟩ ?_ ?_
    · rintro j σ H1 hj ⟨s1, all, o2, rfl⟩
      have pl1 := pl.same s1
      have htp1 := s1 _ _ htp
      obtain ⟨c, ec⟩ : ∃ c, cells[j]? = some c := ⟨_, List.getElem?_eq_getElem (by omega)⟩
      obtain ⟨fo, ef⟩ : ∃ fo, fs[j]? = some fo := ⟨_, List.getElem?_eq_getElem (by omega)⟩
      obtain ⟨y, hy, my⟩ := Paired.get' pl1.cm ec
      have gf : (fs.map formV)[j]? = some (formV fo) := by rw [List.getElem?_map, ef]; rfl
      have i0 : (0 + (j : Int)) = ((j : Nat) : Int) := by omega
      have stay : ∀ H2, Same H1 H2 → (∀ z, fo = some z → holderX es c = some z) → Same H H2 ∧ (∀ i < j + 1, ∀ c z, cells[i]? = some c → fs[i]? = some (some z) → holderX es c = some z) ∧ ∃ o2' : Option V, [some (.ref tp), some (.ref p), some (.int (0 + (j : Nat)))] = [some (V.ref tp), some (.ref p), o2'] := fun H2 s2 ok => ⟨s1.trans s2, fun i hi c' z' hc' hz' => by
        rcases Nat.lt_or_ge i j with l | l
        · exact all i l c' z' hc' hz'
        · obtain rfl : i = j := by omega
          rw [ec] at hc'; rw [ef] at hz'
          cases hc'
          exact ok z' (Option.some.inj hz'), _, rfl⟩
      refine ⟨_, rfl, tp, _, _, _, rfl, rfl, sqT htp1, at_of (j := 2) rfl rfl, _, rfl, pf, _, _, _, rfl, rfl, sqT pl1.fp, at_of (j := j) i0 gf, rfl, _, rfl, ?_⟩
      cases fo with
      | none => exact iteF (stay _ (Same.refl _) nofun)
      | some x =>
        refine iteT ?_
        refine ⟨_, rfl, _, rfl, tp, _, _, _, rfl, rfl, sqT htp1, at_of (j := 1) rfl rfl, _, rfl, pc, _, _, _, rfl, rfl, sqT pl1.cp, at_of (j := j) i0 hy, p, y, ys, es, c, rfl, s1 _ _ hp, Ents.keep (TFr.same s1) en, l6, l12, my, fun H2 s2 => ?_⟩
        have s12 := s1.trans s2
        refine ⟨_, rfl, tp, _, _, _, rfl, rfl, sqT (s12 _ _ htp), at_of (j := 2) rfl rfl, _, rfl, pf, _, _, _, rfl, rfl, sqT (pl.same s12).fp, at_of (j := j) i0 gf, ?_⟩
        refine ⟨forms_scal _ (some x), _, rfl, ?_⟩
        have e : decide (formV (holderX es c) = V.str x) = decide (holderX es c = some x) := formV_eq (holderX es c) (some x)
        refine ite2 (fun ne => ?_) (fun eq => ?_)
        · have ne' : (!decide (formV (holderX es c) = V.str x)) = true := ne
          rw [e] at ne'
          rw [mk_false (r := (c, x)) (rows_mem.mpr ⟨j, ec, ef⟩) (by simpa using ne')] at k
          exact k H2 s12
        · have eq' : ¬ (!decide (formV (holderX es c) = V.str x)) = true := eq
          rw [e] at eq'
          exact stay _ s2 fun z hz => by
            rw [← Option.some.inj hz]
            simpa using eq'
    · rintro σ H1 ⟨s1, all, o2, rfl⟩
      have t : withinMk (rowsOf cells fs) es = true := List.all_eq_true.mpr fun r hr => by
        obtain ⟨i, h1, h2⟩ := rows_mem.mp hr
        have := (List.getElem?_eq_some_iff.mp h1).1
        exact decide_eq_true (all i (by omega) _ _ h1 h2)
      rw [t] at k
      exact k H1 s1
end
end Xci

namespace Xci
open PySem L2
theorem dgetD {H : Hp} {d : Addr} {F : List Str} {ms : Str → List Int} {g : Str → Addr} {z : Str} (h : HeldAt H d F ms g) (zF : z ∈ F) : DGet H d (.str z) (some (.ref (g z))) := dk_get (g := refV g) h.at_ zF
theorem HeldAt.same {H H' : Hp} {d : Addr} {F : List Str} {ms : Str → List Int} {g : Str → Addr} (h : HeldAt H d F ms g) (s : Same H H') : HeldAt H' d F ms g := ⟨s _ _ h.at_, fun z hz => s _ _ (h.each z hz)⟩
theorem hu65 {A : Around} {k : Nat} (hr : Room k A) : A.units + 65 < cLine := by have := hr.un; omega
theorem hu4 {A : Around} {k : Nat} (hr : Room k A) : A.units + 4 < cLine := by have := hr.un; omega
theorem MarksOk.few {ms : List Int} (h : MarksOk 6 ms) : ms.length ≤ 1000 := by have := h.len; omega
section
variable {P : Program} {w : World} {K : PySem.W.Frag} {mg : Str → Option Value} {base : Heap}
abbrev sLawEnds : Stmt := top 77
theorem scLawEnds : FnScope ["plot", "held", "found", "one", "at", "other"] ["plot", "held"] (defScope sLawEnds) := ⟨rfl, rfl, rfl, by decide +kernel, rfl, by decide +kernel, by decide +kernel⟩
set_option maxHeartbeats 4000000 in
theorem ok_ends {f : Addr} {fd : FuncData} (F : Fun K "_law_ends" "_law_ends" sLawEnds f fd) (T : Txt mg) (HLi : Has P w K mg base "_law_lies" ["one", "other"] 1 spIn) : FnOk P w K mg base CX0 2 f fd ["plot", "held"] spEnds := by
  refine F.ok scLawEnds (fun vs H Q E h => ?_) (fun cdv A outer s H vs Q E hr h => ?_)
  · obtain ⟨v, many, pc, pf, cy, cells, fs, d, F, ms, g, rfl, _⟩ := h
    rfl
  · obtain ⟨v, many, pc, pf, cy, cells, fs, d, F, ms, g, rfl, pl, hd, Fn, Fl, all, mok, k⟩ := h
    obtain ⟨tp, rfl, htp⟩ := id pl.tup
    refine ⟨_, (pss_cons (ps_set (i := 2) scLawEnds.nd rfl (by first | exact Or.inl rfl | exact Or.inr rfl) (pe_lst pa_nil))
      (pss_cons (ps_for PassesOwn.never rfl (pi_list (pe_callB cr_sortedS rfl T.sorted (by decide +kernel) (pa_cons (pe_callTy (call_list_dK rfl) rfl T.list (by decide +kernel) (pa_cons (pv 1) pa_nil)) pa_nil))) (pg_name (i := 3) scLawEnds.nd rfl (by first | exact Or.inl rfl | exact Or.inr rfl)) (pss_one (ps_for PassesOwn.never rfl (pi_range1 rfl T.range (pa_cons (pe_callB call_len rfl T.len PySem.boot_len (pa_cons (pe_ix ix_tup (pv 0) pe_int (fun _ _ => rfl)) pa_nil)) pa_nil)) (pg_name (i := 4) scLawEnds.nd rfl (by first | exact Or.inl rfl | exact Or.inr rfl)) (pss_cons (ps_set (i := 5) scLawEnds.nd rfl (by first | exact Or.inl rfl | exact Or.inr rfl) (pe_ix ix_tup (pe_ix ix_tup (pv 0) pe_int (fun _ _ => rfl)) (pv 4) (fun _ _ => rfl)))
      (pss_one (ps_if (PW.pt (pw_and (pt_cmpR op_notN (pv 5) pe_non (nomark _)) (pw_and (pt_cmpR op_ne (pv 5) (pv 3) (nomark _)) (pw_and1 (pt_val (pe_callH HLi (hr.mono (by decide)) rfl (pa_cons (pe_dget (hu1 hr) (pv 1) (pv 3) (fun _ _ => rfl)) (pa_cons (pe_ix ix_tup (pe_ix ix_tup (pv 0) pe_int (fun _ _ => rfl)) (pv 4) (fun _ _ => rfl)) pa_nil)))))))) (pss_one (ps_if (pt_not (pt_val (pe_callH HLi (hr.mono (by decide)) rfl (pa_cons (pe_dget (hu1 hr) (pv 1) (pv 3) (fun _ _ => rfl)) (pa_cons (pe_dget (hu1 hr) (pv 1) (pv 5) (fun _ _ => rfl)) pa_nil))))) (pss_one (ps_expr (pe_bm PySem.F.plainAttrs_list PySem.F.slot_list_append PySem.F.type_list_append mt_append (pv 2) (pa_cons (pe_tup (pa_cons (pv 3) (pa_cons (pv 5) (pa_cons (pv 4) pa_nil)))) pa_nil)))) pss_nil)) pss_nil))))))
      (pss_one (ps_ret (pv 2))))), ?_⟩
    have lcy : cy.length = cells.length := Paired.length pl.cm
    have lfs := pl.forms.len
    have few := pl.fok.len
    refine ⟨Nat.zero_le _, fun l hl => ?_⟩
    have s1 : Same H (upd H l (.lst [])) := Same.new hl
    have e1 : (upd H l (.lst [])) l = some (.lst []) := upd_same
    generalize upd H l (.lst []) = H1 at *
    refine ⟨_, rfl, d, _, rfl, s1 _ _ hd.at_, fun q hq => ?_⟩
    rw [dk_fst]
    have s2 : Same H1 (upd H1 q (.lst (F.map V.str))) := Same.new hq
    have e2 : (upd H1 q (.lst (F.map V.str))) q = some (.lst (F.map V.str)) := upd_same
    generalize upd H1 q (.lst (F.map V.str)) = H2 at *
    refine ⟨q, F, rfl, SqL.of e2, by omega, fun zs p perm _ hp => ?_⟩
    have s3 : Same H2 (upd H2 p (.lst (zs.map V.str))) := Same.new hp
    have e3 : (upd H2 p (.lst (zs.map V.str))) p = some (.lst (zs.map V.str)) := upd_same
    generalize upd H2 p (.lst (zs.map V.str)) = H3 at *
    have s13 : Same H1 H3 := s2.trans s3
    have s03 : Same H H3 := s1.trans s13
    have npl : p ≠ l := fun e => by rw [e, s2 _ _ e1] at hp; cases hp
    have zl : zs.length ≤ 24 := by rw [perm.length_eq]; exact Fl
    refine ⟨p, rfl, ⟨_, SqL.of e3⟩, ?_⟩
    refine for_list (K := K) (a := p) (xs := zs.map V.str) (fun i σ H4 => Same H H4 ∧ H4 p = some (.lst (zs.map V.str)) ∧ (∃ (ys : List V) (ts : List Stk), H4 l = some (.lst ys) ∧ Stks H4 ys ts ∧ ts.length ≤ i * 24 ∧ ∀ t, t ∈ ts ↔ EndsAt cells fs F ms t ∧ t.1 ∈ zs.take i) ∧ ∃ o3 o4 o5 : Option V, σ = [some (.ref tp), some (.ref d), some (.ref l), o3, o4, o5])
      ⟨s03, e3, ⟨[], [], s13 _ _ e1, .nil, Nat.zero_le _, fun t => by simp⟩, _, _, _, rfl⟩ (fun i σ H4 _ ⟨_, h, _⟩ => SqL.of h) ?_ ?_
    · rintro i v σ H4 hi ⟨s4, e4, ⟨ys4, ts4, l4, k4, n4, I4⟩, o3, o4, o5, rfl⟩
      rw [List.getElem?_map] at hi
      obtain ⟨z, hz, rfl⟩ := Option.map_eq_some_iff.mp hi
      have zF : z ∈ F := perm.mem_iff.mp (List.mem_of_getElem? hz)
      have ilt := (List.getElem?_eq_some_iff.mp hz).1
      have i24 : i * 24 ≤ 552 := by omega
      have d4 := pl.same s4
      refine ⟨_, rfl, tp, _, _, _, rfl, rfl, sqT (s4 _ _ htp), at_of (j := 1) rfl rfl, _, cy.length, rfl, .inr ⟨_, sqT d4.cp, rfl⟩, _, rfl, by omega, by omega, ?_⟩
      refine for_range (n := cy.length) (fun j σ H5 => Same H H5 ∧ H5 p = some (.lst (zs.map V.str)) ∧ (∃ (ys : List V) (ts : List Stk), H5 l = some (.lst ys) ∧ Stks H5 ys ts ∧ ts.length ≤ i * 24 + j ∧ ∀ t, t ∈ ts ↔ EndsAt cells fs F ms t ∧ (t.1 ∈ zs.take i ∨ (t.1 = z ∧ t.2.2 < j))) ∧ ∃ o4 o5 : Option V, σ = [some (.ref tp), some (.ref d), some (.ref l), some (.str z), o4, o5])
        ⟨s4, e4, ⟨ys4, ts4, l4, k4, n4, fun t => by rw [I4]; simp⟩, _, _, rfl⟩ ?_ ?_
      · rintro j σ H5 hj ⟨s5, e5, ⟨ys, ts, l5, k5, n5, I5⟩, o4, o5, rfl⟩
        have d5 := pl.same s5
        have htp5 := s5 _ _ htp
        have hd5 := hd.same s5
        have ltc : j < cells.length := by omega
        obtain ⟨c, ec⟩ : ∃ c, cells[j]? = some c := ⟨_, List.getElem?_eq_getElem ltc⟩
        obtain ⟨fo, ef⟩ : ∃ fo, fs[j]? = some fo := ⟨_, List.getElem?_eq_getElem (by omega)⟩
        obtain ⟨y, hy, my⟩ := Paired.get' d5.cm ec
        have gf : (fs.map formV)[j]? = some (formV fo) := by rw [List.getElem?_map, ef]; rfl
        have i0 : (0 + (j : Int)) = ((j : Nat) : Int) := by omega
        refine ⟨_, rfl, tp, _, _, _, rfl, rfl, sqT htp5, at_of (j := 2) rfl rfl, _, rfl, pf, _, _, _, rfl, rfl, sqT d5.fp, at_of (j := j) i0 gf, ?_⟩
        refine ⟨_, rfl, rfl, _, rfl, ?_⟩
        have stay : ∀ {H6 : Hp}, Same H5 H6 → (∀ t : Stk, t.1 = z → t.2.2 = j → ¬ EndsAt cells fs F ms t) → Same H H6 ∧ H6 p = some (.lst (zs.map V.str)) ∧ (∃ (ys : List V) (ts : List Stk), H6 l = some (.lst ys) ∧ Stks H6 ys ts ∧ ts.length ≤ i * 24 + (j + 1) ∧ ∀ t, t ∈ ts ↔ EndsAt cells fs F ms t ∧ (t.1 ∈ zs.take i ∨ (t.1 = z ∧ t.2.2 < j + 1))) := fun s6 no =>
          ⟨s5.trans s6, s6 _ _ e5, ys, ts, s6 _ _ l5, k5.keep (TFr.same s6), by omega, ends_no (A := fun t => t.1 ∈ zs.take i) I5 no⟩
        cases fo with
        | none =>
          obtain ⟨a1, a2, a3⟩ := stay (Same.refl _) fun t _ h2 e => by
            have := e.form
            rw [h2, ef] at this
            cases this
          exact iteF ⟨a1, a2, a3, _, _, rfl⟩
        | some x =>
          have form : ∀ t : Stk, t.2.2 = j → EndsAt cells fs F ms t → t.2.1 = x := fun t h2 e => by
            have := e.form
            rw [h2, ef] at this
            exact (Option.some.inj (Option.some.inj this)).symm
          have xF : x ∈ F := all x (List.mem_of_getElem? ef)
          refine iteT ?_
          refine ⟨_, rfl, _, rfl, rfl, _, rfl, ?_⟩
          refine ite2 (fun ne => ?_) (fun same => ?_)
          · have xz : x ≠ z := by simpa [formV] using ne
            refine ⟨_, rfl, _, rfl, d, _, rfl, dgetD hd5 zF, _, rfl, tp, _, _, _, rfl, rfl, sqT htp5, at_of (j := 1) rfl rfl, _, rfl, pc, _, _, _, rfl, rfl, sqT d5.cp, at_of (j := j) i0 hy, .ref (g z), y, ms z, c, rfl, ⟨g z, rfl, hd5.each z zF⟩, my, (mok z zF).few, fun H6 s6 => ⟨_, rfl, ?_⟩⟩
            refine ite2 (fun ins => ?_) (fun out => ?_)
            · have hd6 := hd5.same s6
              refine ⟨_, rfl, _, rfl, d, _, rfl, dgetD hd6 zF, _, rfl, _, rfl, d, _, rfl, dgetD hd6 xF, .ref (g z), .ref (g x), ms z, ms x, rfl, ⟨g z, rfl, hd6.each z zF⟩, ⟨g x, rfl, hd6.each x xF⟩, (mok z zF).few, fun H7 s7 => ⟨_, rfl, ?_⟩⟩
              have s57 := s6.trans s7
              refine ite2 (fun less => ?_) (fun no => ?_)
              · have less' : inside (ms z) (ms x) = false := by simpa using less
                have l7 := s57 _ _ l5
                refine ⟨_, rfl, .inl ⟨rfl, _, SqL.of l7⟩, _, rfl, _, rfl, _, rfl, (by show 3 ≤ sizeLine; decide), fun u hu => ?_⟩
                have s8 : Same H7 (upd H7 u (.tup [.str z, formV (some x), .int (0 + (j : Int))])) := Same.new hu
                have eu : (upd H7 u (.tup [.str z, formV (some x), .int (0 + (j : Int))])) u = some (.tup [.str z, .str x, .int (j : Nat)]) := by rw [upd_same, i0]; rfl
                show _
                generalize upd H7 u (.tup [.str z, formV (some x), .int (0 + (j : Int))]) = H8 at *
                have l8 := s8 _ _ l7
                have s58 := s57.trans s8
                have ly := Paired.length k5
                have tf := TFr.lst (o := .lst (ys ++ [.ref u])) l8
                refine ⟨l, _, _, rfl, rfl, l8, small1000 (by omega), ?_⟩
                refine ⟨fun b o hb => by rw [upd_ne (ne_of_none hb hl)]; exact s58 _ _ (s5 b o hb), by rw [upd_ne npl]; exact s58 _ _ e5, ⟨ys ++ [.ref u], ts ++ [(z, x, j)], upd_same, Paired.app ((k5.keep (TFr.same s58)).keep tf) (Paired.one (Tup.keep tf ⟨u, rfl, eu⟩)), by rw [List.length_append, List.length_singleton]; omega, ends_yes (A := fun t => t.1 ∈ zs.take i) I5 zF ef ec xz ins less'⟩, _, _, rfl⟩
              · obtain ⟨a1, a2, a3⟩ := stay s57 fun t h1 h2 e => by
                  have := e.less
                  rw [h1, form t h2 e] at this
                  rw [this] at no
                  exact no rfl
                exact ⟨a1, a2, a3, _, _, rfl⟩
            · obtain ⟨a1, a2, a3⟩ := stay s6 fun t h1 h2 e => by
                obtain ⟨c', hc', h'⟩ := e.cell
                rw [h2, ec] at hc'
                rw [h1, ← Option.some.inj hc'] at h'
                exact out h'
              exact ⟨a1, a2, a3, _, _, rfl⟩
          · obtain ⟨a1, a2, a3⟩ := stay (Same.refl _) fun t h1 h2 e => same (by
              have := e.ne
              rw [h1, form t h2 e] at this
              simpa [formV] using this)
            exact ⟨a1, a2, a3, _, _, rfl⟩
      · rintro σ H5 ⟨s5, e5, ⟨ys, ts, l5, k5, n5, I5⟩, o4, o5, rfl⟩
        refine ⟨s5, e5, ⟨ys, ts, l5, k5, by omega, fun t => ?_⟩, _, _, _, rfl⟩
        rw [I5, List.take_add_one, hz, List.mem_append]
        refine and_congr_right fun e => or_congr_right ⟨fun h => List.mem_singleton.mpr h.1, fun h => ⟨List.mem_singleton.mp h, ?_⟩⟩
        have := (List.getElem?_eq_some_iff.mp e.form).1
        omega
    · rintro σ H4 ⟨s4, e4, ⟨ys4, ts4, l4, k4, n4, I4⟩, o3, o4, o5, rfl⟩
      rw [List.length_map] at n4 I4
      rw [List.take_length] at I4
      exact ⟨_, rfl, k l ys4 ts4 H4 l4 k4 (fun t => by rw [I4]; exact ⟨fun h => h.1, fun h => ⟨h, perm.mem_iff.mpr h.inF⟩⟩) (by omega) hl s4⟩
end
end Xci

namespace Xci
open PySem L2
theorem Paired.flat {α β γ δ : Type} {P : α → β → Prop} {R : γ → δ → Prop} {f : α → List γ} {g : β → List δ} (h : ∀ x y, P x y → Paired R (f x) (g y)) : ∀ {xs : List α} {ys : List β}, Paired P xs ys → Paired R (xs.flatMap f) (ys.flatMap g)
  | _, _, .nil => .nil
  | _, _, .cons a r => by
    rw [List.flatMap_cons, List.flatMap_cons]
    exact Paired.app (h _ _ a) (Paired.flat h r)
theorem Paired.maps {α β γ δ : Type} {P : α → β → Prop} {R : γ → δ → Prop} {f : α → γ} {g : β → δ} (h : ∀ x y, P x y → R (f x) (g y)) : ∀ {xs : List α} {ys : List β}, Paired P xs ys → Paired R (xs.map f) (ys.map g)
  | _, _, .nil => .nil
  | _, _, .cons a r => .cons (h _ _ a) (Paired.maps h r)
theorem choices_go {α β : Type} {R : α → β → Prop} : ∀ {lv : List (List α)} {ls : List (List β)} {acc : List (List α)} {acc' : List (List β)}, Paired (Paired R) lv ls → Paired (Paired R) acc acc' → Paired (Paired R) (lv.foldl (fun found things => found.flatMap fun row => things.map fun x => row ++ [x]) acc) (ls.foldl (fun found things => found.flatMap fun row => things.map fun x => row ++ [x]) acc')
  | _, _, _, _, .nil, ha => ha
  | a :: _, b :: _, _, _, .cons h r, ha => by
    rw [List.foldl_cons, List.foldl_cons]
    exact choices_go r (Paired.flat (P := Paired R) (R := Paired R) (f := fun row => a.map fun x => row ++ [x]) (g := fun row => b.map fun x => row ++ [x]) (fun row row' hr => Paired.maps (fun x y hx => Paired.app hr (Paired.one hx)) h) ha)
theorem choices_paired {α β : Type} {R : α → β → Prop} {lv : List (List α)} {ls : List (List β)} (h : Paired (Paired R) lv ls) : Paired (Paired R) (choices lv) (choices ls) := choices_go h (Paired.one .nil)
/-- a list of entries -/
def EntL (H : Hp) (y : V) (es : List Ent) : Prop := ∃ (l : Addr) (us : List V), y = .ref l ∧ H l = some (.lst us) ∧ Ents H us es
/-- all plain books by holding, of lots of the common marks, that make -/
def spWithinBooks : Sp := fun vs H Q _ => ∃ (v : V) (many : Int) (pc pf : Addr) (cy : List V) (cells : List (List Int)) (fs : List (Option Str)), vs = [v] ∧ PlotS H v many pc pf cy cells fs ∧ many ≤ 3 ∧ (∀ zs, Rising fs zs → zs.length ≤ 3) ∧
  ∀ (q : Addr) (zs : List Str) (ys : List V) (H' : Hp), Rising fs zs → H' q = some (.lst ys) → Paired (EntL H') ys (booksW (rowsOf cells fs) zs) → Same H H' → Q (.ref q) H'
section
variable {P : Program} {w : World} {K : PySem.W.Frag} {mg : Str → Option Value} {base : Heap}
abbrev sLawWithinBooks : Stmt := top 84
theorem scLawWithinBooks : FnScope ["plot", "held", "forms", "found", "sets", "form", "entries", "at"] ["plot"] (defScope sLawWithinBooks) := ⟨rfl, rfl, rfl, by decide +kernel, rfl, by decide +kernel, by decide +kernel⟩
set_option maxHeartbeats 4000000 in
theorem ok_withinBooks {f : Addr} {fd : FuncData} (F : Fun K "_law_within_books" "_law_within_books" sLawWithinBooks f fd) (T : Txt mg) (HCm : Has P w K mg base "_law_commons" ["plot"] 2 spPlotCommons) (HLo : Has P w K mg base "_law_lots" ["items"] 1 (spLots K)) (HCh : Has P w K mg base "_law_choices" ["lists"] 1 spChoices) (HWm : Has P w K mg base "_law_within_makes" ["plot", "entries"] 3 spWithinMk) : FnOk P w K mg base CX0 4 f fd ["plot"] spWithinBooks := by
  refine F.ok scLawWithinBooks (fun vs H Q E h => ?_) (fun cdv A outer s H vs Q E hr h => ?_)
  · obtain ⟨v, many, pc, pf, cy, cells, fs, rfl, _⟩ := h
    rfl
  · obtain ⟨v, many, pc, pf, cy, cells, fs, rfl, pl, m3, f3, k⟩ := h
    obtain ⟨tp, rfl, htp⟩ := id pl.tup
    refine ⟨_, (pss_cons (ps_set (i := 1) scLawWithinBooks.nd rfl (by first | exact Or.inl rfl | exact Or.inr rfl) (pe_callH HCm (hr.mono (by decide)) rfl (pa_cons (pv 0) pa_nil)))
      (pss_cons (ps_set (i := 2) scLawWithinBooks.nd rfl (by first | exact Or.inl rfl | exact Or.inr rfl) (pe_callB cr_sortedS rfl T.sorted (by decide +kernel) (pa_cons (pe_callTy (call_list_dK rfl) rfl T.list (by decide +kernel) (pa_cons (pv 1) pa_nil)) pa_nil)))
      (pss_cons (ps_set (i := 3) scLawWithinBooks.nd rfl (by first | exact Or.inl rfl | exact Or.inr rfl) (pe_lst pa_nil))
      (pss_cons (ps_for PassesOwn.never rfl (pi_list (pe_callH HCh (hr.mono (by decide)) rfl (pa_cons (pe_lc (own := [("form", 5)]) rfl scLawWithinBooks.nd (pi_list (pv 2)) (blkOk_by (N := ["plot", "held", "forms", "found", "sets", "form", "entries", "at"]) (sc := defScope sLawWithinBooks) (by decide +kernel)) (fun _ _ _ _ _ => (pg_name (i := 5) scLawWithinBooks.nd rfl (by first | exact Or.inl rfl | exact Or.inr rfl))) (fun _ _ _ _ _ => pts_nil) (fun _ _ _ _ _ => (pe_callH HLo (hr.mono (by decide)) rfl (pa_cons (pe_dget (hu1 hr) (pv 1) (pv 5) (fun _ _ => rfl)) pa_nil)))) pa_nil))) (pg_name (i := 4) scLawWithinBooks.nd rfl (by first | exact Or.inl rfl | exact Or.inr rfl)) (pss_cons (ps_setLc (i := 6) (own := [("at", 7)]) rfl scLawWithinBooks.nd rfl rfl (sw_true rfl rfl rfl (by decide +kernel)) (pi_range1 rfl T.range (pa_cons (pe_callB call_len rfl T.len PySem.boot_len (pa_cons (pv 2) pa_nil)) pa_nil)) (blkOk_by (N := ["plot", "held", "forms", "found", "sets", "form", "entries", "at"]) (sc := defScope sLawWithinBooks) (by decide +kernel)) (fun _ _ _ _ _ => (pg_name (i := 7) scLawWithinBooks.nd rfl (by first | exact Or.inl rfl | exact Or.inr rfl))) (fun _ _ _ _ _ => pts_nil) (fun _ _ _ _ _ => (pe_tup (pa_cons (pe_ix (show IxR _ (rIxT K) from ix_tup) (pv 4) (pv 7) (fun _ _ => rfl)) (pa_cons (pe_ix (show IxR _ (rIxL K) from ix_list) (pv 2) (pv 7) (fun _ _ => rfl)) pa_nil)))))
      (pss_one (ps_if (pt_val (pe_callH HWm (hr.mono (by decide)) rfl (pa_cons (pv 0) (pa_cons (pv 6) pa_nil)))) (pss_one (ps_expr (pe_bm PySem.F.plainAttrs_list PySem.F.slot_list_append PySem.F.type_list_append mt_append (pv 3) (pa_cons (pv 6) pa_nil)))) pss_nil))))
      (pss_one (ps_ret (pv 3))))))), ?_⟩
    have lfs := pl.forms.len
    have few := pl.fok.len
    refine ⟨_, rfl, _, many, pc, pf, cy, cells, fs, rfl, pl, fun d F g H1 rise hh fd1 s1 => ?_⟩
    have lF := f3 F rise
    have c3 : ∀ z ∈ F, (commonL (rowsOf cells fs) z).length ≤ 3 := fun z hz => by
      have ok := commonL_ok (n := many) (cells_named lfs ((rise.all z).mp hz)) fun c hc => pl.fok.ok c (cells_told hc)
      have ok := ok.le m3
      refine asc_sub_len (b := [0, 1, 2]) (by decide) ok.up fun x hx => ?_
      have h1 := ok.lo x hx
      have h2 := ok.hi x hx
      have : x = 0 ∨ x = 1 ∨ x = 2 := by omega
      simpa using this
    refine ⟨_, rfl, d, _, rfl, hh.at_, fun q hq => ?_⟩
    rw [dk_fst]
    have s2 : Same H1 (upd H1 q (.lst (F.map V.str))) := Same.new hq
    have e2 : (upd H1 q (.lst (F.map V.str))) q = some (.lst (F.map V.str)) := upd_same
    generalize upd H1 q (.lst (F.map V.str)) = H2 at *
    refine ⟨q, F, rfl, SqL.of e2, by omega, fun zs p perm srt hp => ?_⟩
    have s3 : Same H2 (upd H2 p (.lst (zs.map V.str))) := Same.new hp
    have e3 : (upd H2 p (.lst (zs.map V.str))) p = some (.lst (zs.map V.str)) := upd_same
    generalize upd H2 p (.lst (zs.map V.str)) = H3 at *
    have risez : Rising fs zs := ⟨srt, fun z => perm.mem_iff.trans (rise.all z), perm.nodup_iff.mpr rise.nd⟩
    obtain rfl := risez.one rise
    have hh3 := (hh.same s2).same s3
    have s03 := s1.trans (s2.trans s3)
    refine ⟨Nat.zero_le _, fun L hL => ?_⟩
    have s4 : Same H3 (upd H3 L (.lst [])) := Same.new hL
    have eL : (upd H3 L (.lst [])) L = some (.lst []) := upd_same
    generalize upd H3 L (.lst []) = H4 at *
    have s04 := s03.trans s4
    have hh4 := hh3.same s4
    have ep4 := s4 _ _ e3
    refine ⟨_, rfl, p, rfl, ⟨_, SqL.of ep4⟩, fun D hD => ?_⟩
    refine lc_list (K := K) (a := p) (xs := zs.map V.str) (fun n H5 => ∃ (ls : List Addr) (lv : List (List V)), Same H4 H5 ∧ H5 D = some (.lst (ls.map V.ref)) ∧ (∀ l ∈ ls, l ≠ D) ∧ Lsts H5 ls lv ∧ Paired (fun xs ms => Mks H5 xs ms) lv ((zs.take n).map fun z => lots (commonL (rowsOf cells fs) z))) ⟨[], [], Same.new hD, upd_same, nofun, .nil, .nil⟩ (fun n H5 _ ⟨_, _, e, _⟩ => SqL.of (e _ _ ep4)) ?_ ?_
    · rintro n x H5 hn ⟨ls, lv, s5, eD, nD, hl, hm⟩
      rw [List.getElem?_map] at hn
      obtain ⟨z, hz, rfl⟩ := Option.map_eq_some_iff.mp hn
      have zF := List.mem_of_getElem? hz
      have hh5 := hh4.same s5
      have ll := Paired.length hm
      rw [List.length_map, List.length_take] at ll
      have l2 := Paired.length hl
      refine ⟨rfl, _, rfl, _, rfl, d, _, rfl, dgetD hh5 zF, g z, commonL (rowsOf cells fs) z, rfl, sqT (hh5.each z zF), Nat.le_trans (c3 z zF) (by decide), fun u us H6 eu mu s6 fu => ?_⟩
      have eD6 := s6 _ _ eD
      have nuD : u ≠ D := fun e => by rw [e, eD] at fu; cases fu
      have tf := TFr.lst (o := .lst (ls.map V.ref ++ [.ref u])) eD6
      have keepL : ∀ {l : Addr} {xs : List V}, l ≠ D → H6 l = some (.lst xs) → (upd H6 D (.lst (ls.map V.ref ++ [.ref u]))) l = some (.lst xs) := fun n h => by rw [upd_ne n]; exact h
      refine ⟨ls.map V.ref, eD6, small1000 (by rw [List.length_map]; omega), ls ++ [u], lv ++ [us], fun b o hb => by rw [upd_ne (ne_of_none hb hD)]; exact s6 _ _ (s5 b o hb), by rw [List.map_append]; exact upd_same, fun l hl' => ?_, ?_, ?_⟩
      · rcases List.mem_append.mp hl' with h | h
        · exact nD l h
        · rw [List.mem_singleton.mp h]; exact nuD
      · refine Paired.app (Paired.mapIx hl fun i l xs hi _ h => keepL (nD l (List.mem_of_getElem? hi)) (s6 _ _ h)) (Paired.one (keepL nuD eu))
      · rw [List.take_add_one, hz, List.map_append]
        exact Paired.app (Paired.mapP hm fun xs ms h => (h.keep (TFr.same s6)).keep tf) (Paired.one (mu.keep tf))
    · rintro H5 ⟨ls, lv, s5, eD, nD, hl, hm⟩
      rw [List.length_map, List.take_length] at hm
      have lv3 : lv.length ≤ 3 := by have := Paired.length hm; rw [List.length_map] at this; omega
      have l8 : ∀ xs ∈ lv, xs.length ≤ 8 := fun xs hx => by
        obtain ⟨i, hi⟩ := List.mem_iff_getElem?.mp hx
        obtain ⟨ms, hms, h⟩ := Paired.get hm hi
        rw [List.getElem?_map] at hms
        obtain ⟨z, hz, rfl⟩ := Option.map_eq_some_iff.mp hms
        rw [Paired.length h, lots_len]
        exact Nat.le_trans (Nat.pow_le_pow_right (by decide) (c3 z (List.mem_of_getElem? hz))) (by decide)
      refine ⟨D, ls, lv, rfl, eD, hl, lv3, l8, fun C ys H6 eC hC fC s6 => ?_⟩
      have cp : Paired (Paired (Xci.Mk H6)) (choices lv) (choices (zs.map fun z => lots (commonL (rowsOf cells fs) z))) := choices_paired (Paired.mapP hm fun xs ms h => Mks.keep (TFr.same s6) h)
      have s46 := s5.trans s6
      have pl6 := pl.same (s04.trans s46)
      have hBk := choices_mem (zs.map fun z => lots (commonL (rowsOf cells fs) z))
      have c512 := choices_512 lv3 l8 lv.length
      rw [List.take_length] at c512
      have lys := Paired.length hC
      have eL6 := s46 _ _ eL
      have nCL : C ≠ L := fun e => by rw [e, s5 _ _ eL] at fC; cases fC
      refine ⟨C, rfl, ⟨_, SqL.of eC⟩, ?_⟩
      refine for_list (K := K) (a := C) (xs := ys) (fun i σ H7 => (∀ b o, H3 b = some o → H7 b = some o) ∧ (∀ b o, H6 b = some o → b ≠ L → H7 b = some o) ∧ (∃ us : List V, H7 L = some (.lst us) ∧ us.length ≤ i ∧ (∀ y ∈ us, y ≠ .ref L) ∧ Paired (EntL H7) us ((((choices (zs.map fun z => lots (commonL (rowsOf cells fs) z))).take i).map fun sets => sets.zip zs).filter (withinMk (rowsOf cells fs)))) ∧ ∃ o4 o6 : Option V, σ = [some (.ref tp), some (.ref d), some (.ref p), some (.ref L), o4, none, o6, none])
        ⟨fun b o h => s46 _ _ (s4 b o h), fun b o h _ => h, ⟨[], eL6, Nat.zero_le _, nofun, .nil⟩, _, _, rfl⟩ (fun i σ H7 _ ⟨_, h, _⟩ => SqL.of (h _ _ eC nCL)) ?_ ?_
      · rintro i y σ H7 hi ⟨k3, k6, ⟨us, eL7, lus, nus, hus⟩, o4, o6, rfl⟩
        obtain ⟨row, hrow, tu⟩ := Paired.get hC hi
        obtain ⟨rt, rfl, hrt⟩ := tu
        obtain ⟨sets, hsets, hsv⟩ := Paired.get cp hrow
        have ilt := (List.getElem?_eq_some_iff.mp hi).1
        have msets := (hBk sets).mp (List.mem_of_getElem? hsets)
        have lsets := Paired.length msets
        rw [List.length_map] at lsets
        have lrow := Paired.length hsv
        have nrt : rt ≠ L := ne_of hrt eL6 (by intro z; cases z)
        have tfr : TFr H6 H7 := fun b xs h => k6 _ _ h (ne_of h eL6 (by intro z; cases z))
        have hrt7 := tfr _ _ hrt
        have hsv7 : Paired (Xci.Mk H7) row sets := Paired.mapP hsv fun _ _ h => Tup.keep tfr h
        have ep7 := k3 _ _ e3
        have pl7 : PlotS H7 (.ref tp) many pc pf cy cells fs := pl6.tfr tfr
        have lsml : ∀ ms ∈ sets, ms.length ≤ 3 := fun ms hms => by
          obtain ⟨j, hj⟩ := List.mem_iff_getElem?.mp hms
          obtain ⟨l, hl', hm'⟩ := Paired.get msets hj
          rw [List.getElem?_map] at hl'
          obtain ⟨z, hz, rfl⟩ := Option.map_eq_some_iff.mp hl'
          exact Nat.le_trans (lots_sub hm').length_le (c3 z (List.mem_of_getElem? hz))
        refine ⟨_, rfl, _, _, rfl, .inl ⟨_, SqL.of ep7, rfl⟩, _, rfl, by rw [List.length_map]; omega, by rw [List.length_map]; omega, fun D2 hD2 => ?_⟩
        refine lc_range (lo := 0) (n := (zs.map V.str).length) (fun n H8 => ∃ us, H8 D2 = some (.lst us) ∧ Same H7 H8 ∧ Ents H8 us ((sets.take n).zip (zs.take n))) ⟨[], upd_same, Same.new hD2, .nil⟩ ?_ ?_
        · rintro n H8 hn ⟨ws, eD8, s8, hw⟩
          rw [List.length_map] at hn
          obtain ⟨ms, hms⟩ : ∃ ms, sets[n]? = some ms := ⟨_, List.getElem?_eq_getElem (by omega)⟩
          obtain ⟨z, hz⟩ : ∃ z, zs[n]? = some z := ⟨_, List.getElem?_eq_getElem hn⟩
          obtain ⟨y, hy, my⟩ := Paired.get' (Paired.mapP hsv7 fun _ _ h => Tup.keep (TFr.same s8) h) hms
          have gz : (zs.map V.str)[n]? = some (.str z) := by rw [List.getElem?_map, hz]; rfl
          have i0 : (0 + (n : Int)) = ((n : Nat) : Int) := by omega
          have lw := Paired.length hw
          rw [List.length_zip, List.length_take, List.length_take] at lw
          refine ⟨rfl, _, rfl, _, rfl, rt, _, _, _, rfl, rfl, sqT (s8 _ _ hrt7), at_of (j := n) i0 hy, _, rfl, _, rfl, p, _, _, _, rfl, rfl, SqL.of (s8 _ _ ep7), at_of (j := n) i0 gz, by show 2 ≤ sizeLine; decide, fun r hr => ?_⟩
          have s9 : Same H8 (upd H8 r (.tup [y, .str z])) := Same.new hr
          have e9 : (upd H8 r (.tup [y, .str z])) r = some (.tup [y, .str z]) := upd_same
          generalize upd H8 r (.tup [y, .str z]) = H9 at *
          have tf := TFr.lst (o := .lst (ws ++ [.ref r])) (s9 _ _ eD8)
          refine ⟨ws, s9 _ _ eD8, small1000 (by omega), ws ++ [.ref r], upd_same, fun b o h => by rw [upd_ne (ne_of_none h hD2)]; exact s9 _ _ (s8 _ _ h), ?_⟩
          rw [List.take_add_one, List.take_add_one, hms, hz]
          show Ents _ _ ((sets.take n ++ [ms]).zip (zs.take n ++ [z]))
          rw [List.zip_append (by rw [List.length_take, List.length_take]; omega)]
          exact Paired.app ((Ents.keep (TFr.same s9) hw).keep tf) (Paired.one ⟨y, ⟨r, rfl, tf _ _ e9⟩, Tup.keep tf (Tup.keep (TFr.same s9) my)⟩)
        · rintro H8 ⟨ws, eD8, s8, hw⟩
          rw [List.length_map, List.take_length, ← lsets, List.take_length] at hw
          have lzip : (sets.zip zs).length ≤ 12 := by rw [List.length_zip]; omega
          have z6 : ∀ e ∈ sets.zip zs, e.1.length ≤ 6 := fun e he => Nat.le_trans (lsml e.1 (List.of_mem_zip he).1) (by decide)
          refine ⟨_, rfl, _, rfl, .ref tp, many, pc, pf, cy, cells, fs, D2, ws, sets.zip zs, rfl, pl7.same s8, eD8, hw, z6, lzip, fun H9 s9 => ?_⟩
          have s79 := s8.trans s9
          have eL9 := s79 _ _ eL7
          have tk : ((((choices (zs.map fun z => lots (commonL (rowsOf cells fs) z))).take (i + 1)).map fun sets => sets.zip zs).filter (withinMk (rowsOf cells fs))) = ((((choices (zs.map fun z => lots (commonL (rowsOf cells fs) z))).take i).map fun sets => sets.zip zs).filter (withinMk (rowsOf cells fs))) ++ if withinMk (rowsOf cells fs) (sets.zip zs) = true then [sets.zip zs] else [] := by
            rw [List.take_add_one, hsets, List.map_append, List.filter_append]
            congr 1
            show List.filter _ [sets.zip zs] = _
            rw [List.filter_cons, List.filter_nil]
          refine ⟨_, rfl, ?_⟩
          refine ite2 (fun q => ?_) (fun q => ?_)
          · refine ⟨_, rfl, .inl ⟨rfl, _, SqL.of eL9⟩, _, rfl, L, _, _, rfl, rfl, eL9, small1000 (by omega), ?_⟩
            have tf := TFr.lst (o := .lst (us ++ [.ref D2])) eL9
            have nDL : D2 ≠ L := fun e => by rw [e, eL7] at hD2; cases hD2
            have keepE : ∀ {b : Addr} {o : HO}, H7 b = some o → b ≠ L → (upd H9 L (.lst (us ++ [.ref D2]))) b = some o := fun h n => by rw [upd_ne n]; exact s79 _ _ h
            refine ⟨fun b o h => ?_, fun b o h n => ?_, ⟨us ++ [.ref D2], upd_same, by rw [List.length_append, List.length_singleton]; omega, fun y hy => ?_, ?_⟩, _, _, rfl⟩
            · exact keepE (k3 b o h) (ne_of_none h hL)
            · exact keepE (k6 b o h n) n
            · rcases List.mem_append.mp hy with h | h
              · exact nus y h
              · rw [List.mem_singleton.mp h]; exact fun e => nDL (V.ref.inj e)
            · rw [tk, if_pos q]
              refine Paired.app ?_ (Paired.one ⟨D2, ws, rfl, by rw [upd_ne nDL]; exact s9 _ _ eD8, (hw.keep (TFr.same s9)).keep tf⟩)
              exact Paired.mapIx hus fun i y es hi _ ⟨l, vs, e, h1, h2⟩ => ⟨l, vs, e, keepE h1 fun q => nus y (List.mem_of_getElem? hi) (by rw [e, q]), (Ents.keep (TFr.same s79) h2).keep tf⟩
          · refine ⟨fun b o h => s79 _ _ (k3 b o h), fun b o h n => s79 _ _ (k6 b o h n), ⟨us, eL9, by omega, nus, ?_⟩, _, _, rfl⟩
            rw [tk, if_neg q, List.append_nil]
            exact Paired.mapP hus fun y es ⟨l, vs, e, h1, h2⟩ => ⟨l, vs, e, s79 _ _ h1, Ents.keep (TFr.same s79) h2⟩
      · rintro σ H7 ⟨k3, k6, ⟨us, eL7, lus, nus, hus⟩, o4, o6, rfl⟩
        rw [lys, Paired.length cp, List.take_length] at hus
        exact ⟨_, rfl, k L zs us H7 risez eL7 hus fun b o h => k3 _ _ (s03 _ _ h)⟩
end
end Xci

set_option maxHeartbeats 2000000
namespace Xci
open PySem PySem.Spec PyProof.Rows L2
/-- x != y of two instances of one class with an own == and no own != -/
theorem ne_own {prog : Program} {w : World} {A : Around} {E : Value → Shared → Prop} {s : Shared} {K : PySem.W.Frag} {x y C f : Addr} {ox oy : Obj} {od od' : Option Obj} {Q : Value → Shared → Prop}
    (hu : A.units + 1 < cLine) (X : K.In s.heap) (I : PySem.W.InstAt s.heap x ox C od) (J : PySem.W.InstAt s.heap y oy C od') (hn : PySem.W.findIn K (.ref C) "__ne__" = some (some (.builtin "object.__ne__"))) (top : PySem.W.mroIn K C (.type "object") = some true)
    (hs : PySem.W.findIn K (.ref C) "__eq__" = some (some (.ref f))) (hf : PySem.W.isFn K (.ref f) = true)
    (h : wpAny (model prog w) A.in1 (call (.ref f) [.ref x, .ref y]) (fun v s' => ∃ b, v = .bool b ∧ Q (.bool (!b)) s') E s) : wpAny (model prog w) A (richCompare .NotEq (.ref x) (.ref y)) Q E s := by
  have body : wpAny (model prog w) A.in1 (Builtin.«object.__ne__» ⟨[.ref x, .ref y], []⟩) (fun fin s' => ∃ b : Bool, fin = .done (.ret (.bool b)) ∧ Q (.bool b) s') E s := by
    unfold Builtin.«object.__ne__»
    have eq : wpAny (model prog w) A.in1 (callSpecialIfBound? (.ref x) "__eq__" [.ref y]) (fun r s' => ∃ b, r = some (.bool b) ∧ Q (.bool (!b)) s') E s :=
      PySem.W.ifBound_K X I hs hf (wpAny_mono h (fun v s' ⟨b, e, q⟩ => ⟨b, by rw [e], q⟩) fun _ _ q => q)
    obtain ⟨hp, g, d, t, os⟩ := s
    repeat (first
      | with_reducible refine wpAny_cRoomFor hu ?_
      | (with_reducible refine wpAny_bind (m := callSpecialIfBound? (.ref x) (Str.ofString "__eq__") [.ref y]) (wpAny_mono eq (fun r s' ⟨b, e, q⟩ => ?_) fun _ _ q => q))
      | wp_step)
    subst e
    exact wpAny_bind (wpAny_truthy_bool (wpAny_pure ⟨_, rfl, q⟩))
  have call1 : wpAny (model prog w) A (call (.builtin "object.__ne__") [.ref x, .ref y]) (fun v s' => ∃ b : Bool, v = .bool b ∧ Q (.bool b) s') E s :=
    wpAny_call (codeAny_call_builtin F.cmp_object.ne.plain F.cmpEntry_ne (PySem.W.check_slot F.cmpKind_ne F.cmpSplit_ne (I.type.andThen (PySem.W.looks_mroIn X top)) (F.cmpArgs_ne _ _)
      (wpAny_mono body (fun fin s' ⟨b, e, q⟩ => by rw [e]; exact ⟨b, rfl, q⟩) fun _ _ q => q)))
  have one : wpAny (model prog w) A (tryCompare (.ref x) "__ne__" (.ref y)) (fun r s' => ∃ b : Bool, r = some (.bool b) ∧ Q (.bool b) s') E s := by
    unfold tryCompare
    refine wpAny_bind (NtL.csib (I.type.andThen (PySem.W.looks_findIn X hn)) (F.cmp_object.ne.bind _) (wpAny_mono call1 (fun v s' ⟨b, e, q⟩ => ?_) fun _ _ q => q))
    subst e
    exact wpAny_pure ⟨b, rfl, q⟩
  unfold richCompare
  simp only [oneThing_ref]
  refine wpAny_holding (wpAny_bind (wpAny_cRoomFor (Nat.lt_of_succ_lt hu) ?_))
  refine wpAny_bind (I.type.here (wpAny_bind (J.type.here ?_)))
  have alike : (Value.ref C != Value.ref C) = false := by simp
  rw [alike, if_neg Bool.false_ne_true]
  refine wpAny_bind (wpAny_pure ?_)
  rw [if_neg Bool.false_ne_true]
  refine wpAny_bind (wpAny_mono one (fun r s' ⟨b, e, q⟩ => ?_) fun _ _ q => q)
  subst e
  exact wpAny_pure q
/-- x != y as an expression, the two being equal by their own == -/
def rNeG (D : Eqv) : R2 := fun x y H Q => D x y H ∧ ∀ H', Ext H H' → Q (.bl false) H'
theorem op_neIns {X : Cx} {CX : CXT} {C f : Addr} {fd : FuncData} {ps : List Str} {n : Nat} {R : Addr → Addr → Hp → Prop} {E : XK} (F : FnOk X.prog X.w X.K X.mg X.base CX n f fd ps (spEq R))
    (hs : PySem.W.findIn X.K (.ref C) "__eq__" = some (some (.ref f))) (hf : PySem.W.isFn X.K (.ref f) = true) (hb : Binds X.K fd ps []) (hx : Passes CX X E) (hn : PySem.W.findIn X.K (.ref C) "__ne__" = some (some (.builtin "object.__ne__"))) (top : PySem.W.mroIn X.K C (.type "object") = some true)
    (hr : Room (n + 1) X.A) : OpR X (compareOp .NotEq) (rNeG (DIns C R)) := by
  intro pins s σ H x y v u Q I rx ry hq
  obtain ⟨⟨a, b, dx, dy, fs, gs, rfl, rfl, ha, hb', hR⟩, q⟩ := hq
  show wpAny (model X.prog X.w) X.A (richCompare .NotEq v u) (EP X pins σ Q) X.xe s
  cases rx
  cases ry
  obtain ⟨mA, J, _⟩ := ins_get I.hok ha
  obtain ⟨mB, J', _⟩ := ins_get I.hok hb'
  obtain ⟨od, J, _⟩ := J.look
  obtain ⟨od', J', _⟩ := J'.look
  have yes : spEq R [.ref a, .ref b] H (fun v H' => v = .bl true ∧ Ext H H') E := ⟨a, b, rfl, hR, fun H' e => ⟨rfl, e⟩⟩
  have inner : Env0 X.prog X.w X.K X.mg X.base X.A.in1 X.stack s H := let e := I.env0; ⟨e.frames, e.mod, e.bs, e.bsz, e.funs, e.frf, e.hok, e.bare⟩
  have two : Vals [V.ref a, V.ref b] [Value.ref a, Value.ref b] := .cons rfl (.cons rfl .nil)
  refine ne_own (by have := hr.un; omega) I.kIn J J' hn top hs hf (wpAny_call (codeAny_mono (F.run X.A.in1 X.stack s H ⟨[.ref a, .ref b], []⟩ [.ref a, .ref b] [.ref a, .ref b] _ E hr.in1 inner (by
    have := hb s [.ref a, .ref b] I.kIn (by simpa using F.len _ _ _ _ yes)
    simpa using this) two yes) fun r s' told => ?_))
  match r, told with
  | .error e, told => exact hx pins σ H s e s' I told
  | .ok (.ret u), told =>
    obtain ⟨z, H', I', rz, ez, ex⟩ := I.after told
    subst ez
    cases rz
    exact ⟨true, rfl, .bl false, H', I', rfl, q H' ex⟩
  | .ok .next, told => exact told.elim
  | .ok .brk, told => exact told.elim
  | .ok .cont, told => exact told.elim
end Xci

namespace Xci
open PySem L2
theorem dp_entsB {K : PySem.W.Frag} {H : Hp} : ∀ {ys : List V} {es : List Ent}, Ents H ys es → (∀ e ∈ es, PyData.strOk e.2 = true) → DpAll K H ys (es.map fun e => PyData.tuple [.tuple (e.1.map PyData.int), .str e.2])
  | _, _, .nil, _ => .nil
  | _, _, .cons h r, ok => .cons (by
      obtain ⟨u, ⟨p, rfl, hp⟩, m⟩ := h
      exact .tup (sqT hp) (.cons (dp_marks m) (.cons (.str _) .nil))) (dp_entsB r fun e he => ok e (List.mem_cons_of_mem _ he))
theorem lay_entsB : ∀ {es : List Ent}, (∀ e ∈ es, PyData.strOk e.2 = true) → PyData.canLayAll0 (es.map fun e => PyData.tuple [.tuple (e.1.map PyData.int), .str e.2]) = true ∧ PyData.depthAll (es.map fun e => PyData.tuple [.tuple (e.1.map PyData.int), .str e.2]) ≤ 2
  | [], _ => ⟨rfl, Nat.zero_le _⟩
  | e :: r, ok => by
    obtain ⟨a, b⟩ := lay_entsB (es := r) fun x hx => ok x (List.mem_cons_of_mem _ hx)
    have h1 := lay_mk e.1
    have h2 := deep_mk e.1
    have h3 := ok e List.mem_cons_self
    unfold mkD at h1 h2
    rw [List.map_cons]
    refine ⟨?_, ?_⟩
    · simp only [PyData.canLayAll0, PyData.canLay0, Bool.and_eq_true] at *
      simp [h1, h3, a]
    · simp only [PyData.depthAll, PyData.depth] at *
      omega
theorem sh_entsT {es : List Ent} (ok : ∀ e ∈ es, PyData.strOk e.2 = true) : SeqAt.shaped (.tuple (es.map fun e => PyData.tuple [.tuple (e.1.map PyData.int), .str e.2])) = true := by
  obtain ⟨a, b⟩ := lay_entsB ok
  have d : PyData.depth (.tuple (es.map fun e => PyData.tuple [.tuple (e.1.map PyData.int), .str e.2])) ≤ 64 := by
    simp only [PyData.depth]
    omega
  unfold SeqAt.shaped
  rw [decide_eq_true d, Bool.and_true]
  simpa [PyData.canLay0] using a
/-- two plain books by holding with the same entries -/
def BookSame (CB : Addr) (a b : Addr) (H : Hp) : Prop := ∃ es : List Ent, BookSt CB H a "within" [] es ∧ BookSt CB H b "within" [] es
theorem op_neH {X : Cx} {C : Addr} {k : Nat} {R : Addr → Addr → Hp → Prop} (h : HasE X.prog X.w X.K X.mg X.base C k R) (hn : PySem.W.findIn X.K (.ref C) "__ne__" = some (some (.builtin "object.__ne__"))) (top : PySem.W.mroIn X.K C (.type "object") = some true) (hr : Room (k + 1) X.A) : OpR X (compareOp .NotEq) (rNeG (DIns C R)) := by
  obtain ⟨f, fd, F, e, i, b⟩ := h.ex
  exact op_neIns F e i b pass0 hn top hr
theorem wt_non {H : Hp} {wt : V} (h : WtIs H "within" wt []) : wt = .non := by
  rcases h with ⟨_, h⟩ | ⟨h, _⟩
  · exact h
  · exact absurd h (by decide +kernel)
section
variable {P : Program} {w : World} {K : PySem.W.Frag} {mg : Str → Option Value} {base : Heap}
abbrev sBookEq : Stmt := inClass (top 29) 1
theorem scBookEq : FnScope ["self", "other"] ["self", "other"] (defScope sBookEq) := ⟨rfl, rfl, rfl, by decide +kernel, rfl, by decide +kernel, by decide +kernel⟩
theorem ok_bookEq {f CB aM : Addr} {fd : FuncData} (F : Fun K "__eq__" "Book.__eq__" sBookEq f fd) (T : Txt mg) (BT : BkTxt K mg CB aM) (CT : ClsTy K CB) : FnOk P w K mg base CX0 1 f fd ["self", "other"] (spEq (BookSame CB)) := by
  refine F.ok scBookEq (fun vs H Q E h => ?_) (fun cdv A outer s H vs Q E hr h => ?_)
  · obtain ⟨a, b, rfl, _⟩ := h
    rfl
  · obtain ⟨a, b, rfl, ⟨es, ⟨⟨p, wt, ys, ⟨dx, ha⟩, hp, en, wi⟩, ok, len⟩, ⟨⟨p', wt', ys', ⟨dy, hb⟩, hp', en', wi'⟩, _, _⟩⟩, k⟩ := h
    obtain rfl := wt_non wi
    obtain rfl := wt_non wi'
    have oks : ∀ e ∈ es, PyData.strOk e.2 = true := fun e he => (ok e he).w.strOk
    refine ⟨_, (pss_one (ps_ret (pe_and (pe_callB call_isi rfl T.isinstance (by decide +kernel) (pa_cons (pv 1) (pa_cons (pe_glob (v := .ref CB) rfl BT.mgC rfl) pa_nil))) (pe_and (pe_cmpR op_eq (pe_fld (pv 0) rfl) (pe_fld (pv 1) rfl) (nomark _)) (pe_and (pe_cmpR (op_eqD (hu64 hr)) (pe_fld (pv 0) rfl) (pe_fld (pv 1) rfl) (nomark _)) (pe_one (pe_cmpR op_eq (pe_fld (pv 0) rfl) (pe_fld (pv 1) rfl) (nomark _)))))))), ?_⟩
    refine ⟨_, rfl, _, _, _, _, true, rfl, .own CB, CT.is hb, kit_own CB, _, rfl, ?_⟩
    refine ⟨_, rfl, a, CB, dx, _, _, rfl, ha, BT.cl, BT.nM, bf_manner _ _ _, _, rfl, b, CB, dy, _, _, rfl, hb, BT.cl, BT.nM, bf_manner _ _ _, rfl, _, rfl, ?_⟩
    refine ite2 (fun _ => ?_) (fun hf => absurd (decide_eq_true rfl) hf)
    refine ⟨_, rfl, a, CB, dx, _, _, rfl, ha, BT.cl, BT.nE, bf_entries _ _ _, _, rfl, b, CB, dy, _, _, rfl, hb, BT.cl, BT.nE, bf_entries _ _ _, ?_⟩
    refine ⟨_, _, .tup (sqT hp) (dp_entsB en oks), .tup (sqT hp') (dp_entsB en' oks), sh_entsT oks, sh_entsT oks, ?_⟩
    rw [eqv_same (sh_entsT oks)]
    refine ⟨_, rfl, ?_⟩
    refine iteT ?_
    refine ⟨_, rfl, a, CB, dx, _, _, rfl, ha, BT.cl, BT.nW, bf_weights _ _ _, _, rfl, b, CB, dy, _, _, rfl, hb, BT.cl, BT.nW, bf_weights _ _ _, rfl, ?_⟩
    exact k H Ext.rfl'
end
end Xci

set_option maxHeartbeats 2000000
/-! pairs of a list's items: itertools.combinations(xs, 2) -/
namespace Xci.Cb
open PySem PySem.Spec
open Sem (wp)
theorem mro_c : mroOf (.type "itertools.combinations") = pure [.type "itertools.combinations", .type "object"] := by rw [mroOf_type]; kernel_rfl
theorem new_c : typeLookup (.type "itertools.combinations") "__new__" = pure (some (.builtin "itertools.combinations.__new__")) := by rw [typeLookup_type, builtinLookup_eq_fast]; kernel_rfl
theorem init_c : Slot "itertools.combinations" "__init__" "object.__init__" :=
  .of (owner := "object") (n := "__init__") (by rw [typeLookup_type, builtinLookup_eq_fast]; kernel_rfl) (by decide +kernel) (by decide +kernel) (by decide +kernel)
    (by first | exact .inl (by decide +kernel) | exact .inr (by decide +kernel)) (by rw [isSubtype_type]; kernel_rfl)
theorem sub_c : isSubtype (.type "itertools.combinations") (.type "itertools.combinations") = pure true := by rw [isSubtype_type]; kernel_rfl
theorem called_c : TypeCalled "itertools.combinations" "itertools.combinations.__new__" "object.__init__" :=
  ⟨by decide +kernel, by decide +kernel, ⟨_, _, mro_c⟩, madeBy_type mro_c new_c (by decide +kernel), by decide +kernel, sub_c, init_c⟩
theorem tcall_c (a b : Value) : checkTypeCall "itertools.combinations" ⟨[a, b], []⟩ = pure () := by kernel_rfl
theorem ncall_c (a b : Value) : checkBuiltinCall "itertools.combinations.__new__" ⟨[.type "itertools.combinations", a, b], []⟩ = pure () := by kernel_rfl
theorem entry_new : entryFor table "itertools.combinations.__new__" = some Builtin.«itertools.combinations.__new__» := entryFor_of_tree (by kernel_rfl)
theorem slot_iter : Slot "itertools.combinations" "__iter__" "itertools.combinations.__iter__" :=
  .of (owner := "itertools.combinations") (n := "__iter__") (by rw [typeLookup_type, builtinLookup_eq_fast]; kernel_rfl) (by decide +kernel) (by decide +kernel) (by decide +kernel)
    (by first | exact .inl (by decide +kernel) | exact .inr (by decide +kernel)) sub_c
theorem slot_next : Slot "itertools.combinations" "__next__" "itertools.combinations.__next__" :=
  .of (owner := "itertools.combinations") (n := "__next__") (by rw [typeLookup_type, builtinLookup_eq_fast]; kernel_rfl) (by decide +kernel) (by decide +kernel) (by decide +kernel)
    (by first | exact .inl (by decide +kernel) | exact .inr (by decide +kernel)) sub_c
theorem entry_iter : entryFor table "itertools.combinations.__iter__" = some Builtin.«dict_keyiterator.__iter__» :=
  entryFor_alias (id' := "dict_keyiterator.__iter__") (by kernel_rfl) (by first | rfl | decide +kernel | (unfold String.splitOn; simp +decide [String.splitOnAux])) (by decide +kernel) (by kernel_rfl)
theorem entry_next : entryFor table "itertools.combinations.__next__" = some Builtin.«itertools.combinations.__next__» := entryFor_of_tree (by kernel_rfl)
theorem owner_c : Manifest.owners.lookup (String.ofList ("itertools.combinations".toList.reverse).reverse) = some Manifest.sig_itertools_combinations := by kernel_rfl
theorem args_iter (a : Value) : argsOk "itertools.combinations.__iter__" ⟨[a], []⟩ := by
  unfold argsOk; rw [signature?_of (id := "itertools.combinations.__iter__") (n := ['_', '_', 'r', 'e', 't', 'i', '_', '_']) (o := "itertools.combinations".toList.reverse) (by kernel_rfl) owner_c]; kernel_rfl
theorem args_next (a : Value) : argsOk "itertools.combinations.__next__" ⟨[a], []⟩ := by
  unfold argsOk; rw [signature?_of (id := "itertools.combinations.__next__") (n := ['_', '_', 't', 'x', 'e', 'n', '_', '_']) (o := "itertools.combinations".toList.reverse) (by kernel_rfl) owner_c]; kernel_rfl
theorem noDict_c : typeHasDict (.type "itertools.combinations") = false := by decide +kernel
/-- such an iterator: its pool, how it stands, what it gave last, the two places -/
abbrev IsComb (h : Heap) (it t : Addr) (st : Int) (last : Value) (i j : Nat) : Prop := h.get? it = some { cls := .type "itertools.combinations", dict := none, data := .fields #[.ref t, .int st 0, last, .int (i : Nat) 0, .int (j : Nat) 0], slots := #[] }
abbrev IsPool (h : Heap) (t : Addr) (us : Array Value) : Prop := h.get? t = some { cls := .type "tuple", dict := none, data := .seq us, slots := #[] }
end Xci.Cb

set_option maxHeartbeats 2000000
namespace Xci.Cb
open PySem PySem.Spec
open Sem (wp)
open PySem.Builtin.Itertools in
theorem bindN (a b : Value) : itBindNamed "combinations" ["iterable", "r"] 2 2 [a, b] [] = pure [some a, some b] := by first | rfl | kernel_rfl | simp [itBindNamed, List.zipIdx]
open PySem.Builtin.Itertools in
theorem ssz (k : Tok) : itSsizeArg (.int 2 k) = pure 2 := by first | rfl | kernel_rfl
section
variable {prog : Program} {w : World} {A : Around} {E : Value → Shared → Prop} {s : Shared}
theorem cls_wp {args : List Value} {Q : Value × List Value → Shared → Prop} (h : Q (.type "itertools.combinations", args) s) : wpAny (model prog w) A (PySem.Builtin.Itertools.itClassAndRest "combinations" ⟨.type "itertools.combinations" :: args, []⟩) Q E s := by
  unfold PySem.Builtin.Itertools.itClassAndRest
  dsimp only
  refine wpAny_bind (wpAny_of_eq (a := true) (by first | rfl | kernel_rfl) ?_)
  rw [if_neg (by decide)]
  have cat : ("itertools." ++ "combinations" : String) = "itertools.combinations" := by decide +kernel
  rw [cat]
  refine wpAny_bind (wpAny_of_eq sub_c ?_)
  rw [if_neg (by decide)]
  exact wpAny_pure h
theorem meets_new (l : Addr) (us : Array Value) (k : Tok) (few : us.size ≤ 1000) :
    MeetsIn prog w (Builtin.«itertools.combinations.__new__» ⟨[.type "itertools.combinations", .ref l, .int 2 k], []⟩) (fun _ R s => s.heap.IsList l us ∧
      ∀ (h1 h' : Heap) (it t : Addr), (∀ b o, s.heap.get? b = some o → h1.get? b = some o) → h1.objs.size ≤ it → h1.objs.size ≤ t → it ≠ t → (∀ b o, h1.get? b = some o → h'.get? b = some o) → IsComb h' it t (if 2 > us.size then 2 else 0) .none 0 1 → IsPool h' t us → R (.ok (.ret (.ref it))) { s with heap := h' }) :=
  .of_wp fun A R s ⟨hl, h⟩ => by
    obtain ⟨o, ho, hc, n, hd⟩ := hl
    have big : us.size ≤ sizeLine := by rw [sizeLine_eq]; omega
    unfold Builtin.«itertools.combinations.__new__»
    refine wpAny_bind (wpAny_bind (cls_wp ?_))
    show wpAny _ _ (PySem.Builtin.Itertools.itBindNamed "combinations" ["iterable", "r"] 2 2 [.ref l, .int 2 k] [] >>= _) _ _ _
    rw [bindN]
    refine wpAny_bind (wpAny_pure ?_)
    show wpAny _ _ (PySem.Builtin.Itertools.itSsizeArg (.int 2 k) >>= _) _ _ _
    rw [ssz]
    refine wpAny_bind (wpAny_pure ?_)
    show wpAny _ _ (collect (.ref l) >>= _) _ _ _
    refine wpAny_bind (wpAny_collect_seq l (.inl rfl) ho hc hd (fun h' keep => ?_) big)
    rw [if_neg (by decide)]
    show wpAny _ _ (if PySem.Builtin.Itertools.itTooMany 2 = true then _ else _) _ _ _
    rw [if_neg (by decide)]
    refine wpAny_bind (wpAny_newTuple ?_ (by rw [Array.length_toList]; exact big))
    refine wpAny_pure ?_
    dsimp only
    refine wpAny_bind ?_
    unfold PySem.Builtin.Itertools.itNewRecord
    rw [noDict_c]
    rw [if_pos (by decide)]
    refine wpAny_newObj_type ?c ?z
    case z => show 5 ≤ sizeLine + 2; rw [sizeLine_eq]; decide
    refine wpAny_pure ⟨_, rfl, h h' _ _ h'.objs.size keep ?_ (Nat.le_refl _) ?_ (fun b o e => Heap.get?_push_of_some _ (Heap.get?_push_of_some _ e)) ?_ ?_⟩
    · rw [Heap.size_push]; exact Nat.le_succ _
    · rw [Heap.size_push]; exact Nat.succ_ne_self _
    · refine (Heap.get?_push_size _ rfl).trans ?_
      simp [List.range_succ, rawInt]
    · refine Heap.get?_push_of_some _ ((Heap.get?_push_size _ rfl).trans ?_)
      simp
theorem call_comb {l : Addr} {us : Array Value} {k : Tok} {Q : Value → Shared → Prop} (few : us.size ≤ 1000) (hl : s.heap.IsList l us)
    (h : ∀ (h1 h' : Heap) (it t : Addr), (∀ b o, s.heap.get? b = some o → h1.get? b = some o) → h1.objs.size ≤ it → h1.objs.size ≤ t → it ≠ t → (∀ b o, h1.get? b = some o → h'.get? b = some o) → IsComb h' it t (if 2 > us.size then 2 else 0) .none 0 1 → IsPool h' t us → Q (.ref it) { s with heap := h' }) :
    wpAny (model prog w) A (call (.type "itertools.combinations") [.ref l, .int 2 k]) Q E s := by
  refine callType_newIn called_c (by decide +kernel) (tcall_c _ _) (ncall_c _ _) (fun obj => F.args_object_init_3 obj _ _) entry_new (meets_new l us k few) ⟨hl, fun h1 h' it t k1 a b n k2 c p => ?_⟩
  exact ⟨⟨_, c, rfl⟩, h h1 h' it t k1 a b n k2 c p⟩
theorem iter_comb {it t : Addr} {st : Int} {last : Value} {i j : Nat} {Q : Value → Shared → Prop} (c : IsComb s.heap it t st last i j) (h : Q (.ref it) s) : wpAny (model prog w) A (pyIter (.ref it)) Q E s := by
  have hT : s.TypeIs (.ref it) "itertools.combinations" := ⟨_, c, rfl⟩
  refine wpAny_pyIter_slot hT slot_iter (wpAny_call_entry slot_iter hT entry_iter ?_ (args_iter _))
  show wpAny _ _ (ret (.ref it)) _ _ s
  exact wpAny_pure ⟨_, rfl, "itertools.combinations", _, hT, slot_next.lookup, h⟩
end
end Xci.Cb

namespace Xci
/-! the places of the pairs of n things, one after another -/
def nxtP (n : Nat) (p : Nat × Nat) : Option (Nat × Nat) := if p.2 + 1 < n then some (p.1, p.2 + 1) else if p.1 + 2 < n then some (p.1 + 1, p.1 + 2) else none
def seqP (n : Nat) : Nat → Option (Nat × Nat)
  | 0 => if 2 ≤ n then some (0, 1) else none
  | i + 1 => (seqP n i).bind (nxtP n)
theorem seqP_ok {n : Nat} : ∀ {i : Nat} {p : Nat × Nat}, seqP n i = some p → p.1 < p.2 ∧ p.2 < n
  | 0, p, h => by
    unfold seqP at h
    split at h
    · cases h; exact ⟨by decide, by omega⟩
    · cases h
  | i + 1, p, h => by
    obtain ⟨q, hq, hn⟩ := Option.bind_eq_some_iff.mp (show (seqP n i).bind (nxtP n) = some p from h)
    have := seqP_ok hq
    unfold nxtP at hn
    split at hn
    · cases hn; exact ⟨by show q.1 < q.2 + 1; omega, by assumption⟩
    · split at hn
      · cases hn; exact ⟨Nat.lt_succ_self _, by assumption⟩
      · cases hn
theorem seqP_rank {n : Nat} : ∀ {i : Nat} {p : Nat × Nat}, seqP n i = some p → i ≤ p.1 * n + p.2
  | 0, p, h => Nat.zero_le _
  | i + 1, p, h => by
    obtain ⟨q, hq, hn⟩ := Option.bind_eq_some_iff.mp (show (seqP n i).bind (nxtP n) = some p from h)
    have ih := seqP_rank hq
    have ok := seqP_ok hq
    unfold nxtP at hn
    split at hn
    · cases hn; show i + 1 ≤ q.1 * n + (q.2 + 1); omega
    · split at hn
      · cases hn
        show i + 1 ≤ (q.1 + 1) * n + (q.1 + 2)
        rw [Nat.succ_mul]
        omega
      · cases hn
theorem seqP_none {n i : Nat} (h : seqP n i = none) : ∀ k, seqP n (i + k) = none
  | 0 => h
  | k + 1 => by show (seqP n (i + k)).bind (nxtP n) = none; rw [seqP_none h k]; rfl
theorem seqP_end (n : Nat) : seqP n (n * n) = none := by
  cases h : seqP n (n * n) with
  | none => rfl
  | some p =>
    have a := seqP_rank h
    have b := seqP_ok h
    have : p.1 * n + n ≤ n * n := by rw [← Nat.succ_mul]; exact Nat.mul_le_mul_right n (by omega)
    omega
/-- how many they are -/
theorem seqP_len (n : Nat) : ∃ N, N ≤ n * n ∧ (∀ i < N, ∃ p, seqP n i = some p) ∧ seqP n N = none := by
  have go : ∀ k, k ≤ n * n → (∀ i < k, ∃ p, seqP n i = some p) ∨ ∃ N, N ≤ k ∧ (∀ i < N, ∃ p, seqP n i = some p) ∧ seqP n N = none := by
    intro k
    induction k with
    | zero => exact fun _ => .inl fun i hi => absurd hi (Nat.not_lt_zero i)
    | succ k ih =>
      intro hk
      rcases ih (by omega) with h | ⟨N, h1, h2⟩
      · cases e : seqP n k with
        | none => exact .inr ⟨k, by omega, h, e⟩
        | some p =>
          refine .inl fun i hi => ?_
          rcases Nat.lt_or_ge i k with q | q
          · exact h i q
          · have : i = k := by omega
            subst this
            exact ⟨p, e⟩
      · exact .inr ⟨N, by omega, h2⟩
  rcases go (n * n) (Nat.le_refl _) with h | ⟨N, h1, h2⟩
  · exact ⟨n * n, Nat.le_refl _, h, seqP_end n⟩
  · exact ⟨N, h1, h2⟩
/-- every pair comes -/
theorem seqP_all {n : Nat} : ∀ (a d : Nat), a + 1 + d < n → ∃ i, seqP n i = some (a, a + 1 + d)
  | a, d + 1, h => by
    obtain ⟨i, hi⟩ := seqP_all (n := n) a d (by omega)
    refine ⟨i + 1, ?_⟩
    show (seqP n i).bind (nxtP n) = _
    rw [hi]
    show nxtP n (a, a + 1 + d) = _
    unfold nxtP
    rw [if_pos (show a + 1 + d + 1 < n by omega)]
    rfl
  | 0, 0, h => ⟨0, by unfold seqP; rw [if_pos (by omega)]⟩
  | a + 1, 0, h => by
    obtain ⟨i, hi⟩ := seqP_all (n := n) a (n - 2 - a) (by omega)
    refine ⟨i + 1, ?_⟩
    show (seqP n i).bind (nxtP n) = _
    rw [hi]
    show nxtP n (a, a + 1 + (n - 2 - a)) = _
    unfold nxtP
    rw [if_neg (show ¬ a + 1 + (n - 2 - a) + 1 < n by omega), if_pos (show a + 2 < n by omega)]
termination_by a d => (a, d)
theorem seqP_pair {n a b N : Nat} (h : a < b) (hb : b < n) (no : seqP n N = none) : ∃ i, i < N ∧ seqP n i = some (a, b) := by
  obtain ⟨i, hi⟩ := seqP_all (n := n) a (b - a - 1) (by omega)
  have e : a + 1 + (b - a - 1) = b := by omega
  rw [e] at hi
  refine ⟨i, ?_, hi⟩
  rcases Nat.lt_or_ge i N with q | q
  · exact q
  · have := seqP_none no (i - N)
    rw [show N + (i - N) = i by omega, hi] at this
    cases this
end Xci

set_option maxHeartbeats 2000000
namespace Xci.Cb
open PySem PySem.Spec
open Sem (wp)
section
variable {prog : Program} {w : World} {A : Around} {E : Value → Shared → Prop} {s : Shared}
theorem pool_items {t : Addr} {us : Array Value} {Q : Array Value → Shared → Prop} (p : IsPool s.heap t us) (h : Q us s) : wpAny (model prog w) A (PySem.Builtin.Itertools.itPoolItems (.ref t)) Q E s := by
  unfold PySem.Builtin.Itertools.itPoolItems
  refine wpAny_bind ?_
  unfold seqItems?
  exact wpAny_bind (wpAny_load p (wpAny_pure (wpAny_pure h)))
/-- the next pair: a new tuple -/
theorem next_item {it t : Addr} {us : Array Value} {st : Int} {last : Value} {i j a b : Nat} {va vb : Value} {Q : Option Value → Shared → Prop} (c : IsComb s.heap it t st last i j) (p : IsPool s.heap t us) (ne : it ≠ t)
    (nx : (st = 0 ∧ i = 0 ∧ j = 1 ∧ a = 0 ∧ b = 1) ∨ (st = 1 ∧ i < j ∧ j < us.size ∧ nxtP us.size (i, j) = some (a, b))) (ha : us[a]? = some va) (hb : us[b]? = some vb)
    (h : ∀ (h' : Heap), IsComb h' it t 1 (.ref s.heap.objs.size) a b → h'.get? s.heap.objs.size = some { cls := .type "tuple", data := .seq #[va, vb] } → (∀ c o, c ≠ it → s.heap.get? c = some o → h'.get? c = some o) → Q (some (.ref s.heap.objs.size)) { s with heap := h' }) :
    wpAny (model prog w) A (pyNext (.ref it)) Q E s := by
  have hT : s.TypeIs (.ref it) "itertools.combinations" := ⟨_, c, rfl⟩
  unfold pyNext
  refine wpAny_bind (wpAny_attempt (wpAny_callSpecial?_slot (name := Str.ofString "__next__") hT slot_next (wpAny_call_entry slot_next hT entry_next ?_ (args_next _))))
  show wpAny _ _ (field (.ref it) 0 >>= _) _ _ s
  refine wpAny_bind (wpAny_field c rfl (x := .ref t) rfl ?_)
  show wpAny _ _ (PySem.Builtin.Itertools.itNumbersFrom (.ref it) 3 >>= _) _ _ s
  refine wpAny_bind ?_
  unfold PySem.Builtin.Itertools.itNumbersFrom
  refine wpAny_bind (wpAny_load c ?_)
  refine wpAny_pure ?_
  show wpAny _ _ (PySem.Builtin.Itertools.itIntField (.ref it) 1 >>= _) _ _ s
  refine wpAny_bind ?_
  unfold PySem.Builtin.Itertools.itIntField
  refine wpAny_bind (wpAny_field c rfl (x := .int st 0) rfl ?_)
  refine wpAny_pure ?_
  rcases nx with ⟨rfl, rfl, rfl, rfl, rfl⟩ | ⟨rfl, lt1, lt2, nx⟩
  · show wpAny _ _ (setField (.ref it) 1 (rawInt 1) >>= _) _ _ s
    refine wpAny_bind (wpAny_setField_rec c (by simp) fun h1 c1 sb1 => ?_)
    have p1 : IsPool h1 t us := (sb1.2 _ (Ne.symm ne)).trans p
    refine wpAny_bind ?_
    refine wpAny_bind (m := PySem.Builtin.Itertools.itPoolItems (.ref t)) (pool_items p1 ?_)
    refine wpAny_newTuple ?_ (by show 2 ≤ sizeLine; decide)
    show wpAny _ _ (field (.ref it) 2 >>= _) _ _ _
    have c1' := Heap.get?_push_of_some { cls := Value.type "tuple", data := Data.seq (List.map (fun i => us.getD i .none) [0, 1]).toArray } c1
    refine wpAny_bind (wpAny_field c1' rfl (x := last) rfl ?_)
    refine wpAny_bind (wpAny_setField_rec c1' (by simp) fun h2 c2 sb2 => ?_)
    refine wpAny_bind (wpAny_letGo ?_)
    refine wpAny_pure ⟨_, rfl, wpAny_pure ?_⟩
    have la : it < s.heap.objs.size := Heap.lt_size c
    have tup : (List.map (fun i => us.getD i Value.none) [0, 1]).toArray = #[va, vb] := by simp [ha, hb]
    have sz : h1.objs.size = s.heap.objs.size := sb1.1
    have at2 := (sb2.2 h1.objs.size (by rw [sz]; exact Nat.ne_of_gt la)).trans (Heap.get?_push_size (o := { cls := Value.type "tuple", data := Data.seq (List.map (fun i => us.getD i Value.none) [0, 1]).toArray }) h1 rfl)
    rw [tup] at at2
    show Q (some (.ref h1.objs.size)) { s with heap := h2 }
    rw [sz] at at2 ⊢
    refine h h2 ?_ at2 fun c' o hc e => (sb2.2 c' hc).trans (Heap.get?_push_of_some _ ((sb1.2 c' hc).trans e))
    rw [← sz]
    exact c2
  · show wpAny _ _ (PySem.Builtin.Itertools.itPoolItems (.ref t) >>= _) _ _ s
    refine wpAny_bind (pool_items p ?_)
    have cj : (j + 1 < us.size ∧ a = i ∧ b = j + 1 ∧ (j != 1 + us.size - 2) = true) ∨ (a = i + 1 ∧ b = i + 2 ∧ (j != 1 + us.size - 2) = false ∧ ¬ i = us.size - 2) := by
      unfold nxtP at nx
      split at nx
      · rename_i q
        cases nx
        exact .inl ⟨q, rfl, rfl, by rw [bne_iff_ne]; have : j + 1 < us.size := q; omega⟩
      · rename_i q
        split at nx
        · rename_i r
          cases nx
          have q' : ¬ j + 1 < us.size := q
          have r' : i + 2 < us.size := r
          refine .inr ⟨rfl, rfl, ?_, by omega⟩
          have : j = 1 + us.size - 2 := by omega
          rw [← this]
          exact bne_self_eq_false j
        · cases nx
    split
    · rename_i next heq
      have e : some [a, b] = some next := by
        rw [← heq]
        conv => rhs; whnf
        rcases cj with ⟨_, rfl, rfl, q⟩ | ⟨rfl, rfl, q, r⟩
        · simp [List.range_succ, q]
        · simp [List.range_succ, q, r]
      obtain rfl := Option.some.inj e
      refine wpAny_bind (wpAny_updateFields c rfl ?_ (by show 5 ≤ _; rw [sizeLine_eq]; decide))
      have c1 : IsComb (s.heap.update it (Obj.mapFields fun fs => fs.extract 0 3 ++ ([a, b].map fun (n : Nat) => rawInt n).toArray)) it t 1 last a b := Heap.get?_update_self _ c rfl
      have sb1 : Heap.SameBut it s.heap (s.heap.update it (Obj.mapFields fun fs => fs.extract 0 3 ++ ([a, b].map fun (n : Nat) => rawInt n).toArray)) := Heap.SameBut.update ..
      generalize s.heap.update it (Obj.mapFields fun fs => fs.extract 0 3 ++ ([a, b].map fun (n : Nat) => rawInt n).toArray) = h1 at *
      have p1 : IsPool h1 t us := (sb1.2 _ (Ne.symm ne)).trans p
      refine wpAny_bind ?_
      refine wpAny_bind (m := PySem.Builtin.Itertools.itPoolItems (.ref t)) (pool_items p1 ?_)
      refine wpAny_newTuple ?_ (by show 2 ≤ sizeLine; decide)
      show wpAny _ _ (field (.ref it) 2 >>= _) _ _ _
      have c1' := Heap.get?_push_of_some { cls := Value.type "tuple", data := Data.seq (List.map (fun i => us.getD i .none) [a, b]).toArray } c1
      refine wpAny_bind (wpAny_field c1' rfl (x := last) rfl ?_)
      refine wpAny_bind (wpAny_setField_rec c1' (by simp) fun h2 c2 sb2 => ?_)
      refine wpAny_bind (wpAny_letGo ?_)
      refine wpAny_pure ⟨_, rfl, wpAny_pure ?_⟩
      have la : it < s.heap.objs.size := Heap.lt_size c
      have tup : (List.map (fun i => us.getD i Value.none) [a, b]).toArray = #[va, vb] := by simp [ha, hb]
      have sz : h1.objs.size = s.heap.objs.size := sb1.1
      have at2 := (sb2.2 h1.objs.size (by rw [sz]; exact Nat.ne_of_gt la)).trans (Heap.get?_push_size (o := { cls := Value.type "tuple", data := Data.seq (List.map (fun i => us.getD i Value.none) [a, b]).toArray }) h1 rfl)
      rw [tup] at at2
      show Q (some (.ref h1.objs.size)) { s with heap := h2 }
      rw [sz] at at2 ⊢
      refine h h2 ?_ at2 fun c' o hc e => (sb2.2 c' hc).trans (Heap.get?_push_of_some _ ((sb1.2 c' hc).trans e))
      rw [← sz]
      exact c2
    · rename_i heq
      have e : some [a, b] = none := by
        rw [← heq]
        conv => rhs; whnf
        rcases cj with ⟨_, rfl, rfl, q⟩ | ⟨rfl, rfl, q, r⟩
        · simp [List.range_succ, q]
        · simp [List.range_succ, q, r]
      cases e
theorem stop_c {Q : Value → Shared → Prop} {F : Fin → Shared → Prop} (hh : A.handled = none) (h : ∀ e h', CpRep.StopE e h' → (∀ c o, s.heap.get? c = some o → h'.get? c = some o) → Q e { s with heap := h' }) : wpAny (model prog w) A (PySem.Builtin.Itertools.itStop (α := Fin)) F Q s := by
  unfold PySem.Builtin.Itertools.itStop
  refine wpAny_bind ?_
  simp only [newExc, newTuple]
  refine wpAny_bind (wpAny_newObj_type ?_ (by size_fits))
  refine wpAny_bind (m := firstArgMember _ _) (wpAny_of_eq (a := Value.none) (by first | rfl | (simp only [firstArgMember]; rfl)) ?_)
  refine wpAny_newObj_type ?_ (by size_fits)
  simp only [raiseNew]
  refine wpAny_bind (wpAny_handled ?_)
  rw [hh]
  refine wpAny_bind (wpAny_pure (wpAny_throw ?_))
  exact h _ _ ⟨_, _, _, rfl, Heap.get?_push_size _ rfl, rfl, rfl, rfl⟩ fun c o e => Heap.get?_push_of_some _ (Heap.get?_push_of_some _ e)
/-- no more pairs -/
theorem next_end {it t : Addr} {us : Array Value} {st : Int} {last : Value} {i j : Nat} {Q : Option Value → Shared → Prop} (hh : A.handled = none) (c : IsComb s.heap it t st last i j) (p : IsPool s.heap t us)
    (nx : st = 2 ∨ (st = 1 ∧ i < j ∧ j < us.size ∧ nxtP us.size (i, j) = none)) (h : ∀ (h' : Heap), (∀ c o, c ≠ it → s.heap.get? c = some o → h'.get? c = some o) → Q none { s with heap := h' }) :
    wpAny (model prog w) A (pyNext (.ref it)) Q E s := by
  have hT : s.TypeIs (.ref it) "itertools.combinations" := ⟨_, c, rfl⟩
  have fin : ∀ (e : Value) (h0 h' : Heap), CpRep.StopE e h' → (∀ c o, c ≠ it → s.heap.get? c = some o → h'.get? c = some o) → wpAny (model prog w) A (do
      let stop ← isInstance e (Value.type "StopIteration")
      if stop = true then pure none else throw e) Q E { s with heap := h' } := fun e h0 h' ⟨a, o, vs, ee, ho, hc, _, _⟩ k => by
    subst ee
    exact wpAny_bind (wpAny_isInstance (T := "StopIteration") (b := true) ⟨o, ho, hc⟩ isSubtype_stop (wpAny_pure (h _ k)))
  unfold pyNext
  refine wpAny_bind (wpAny_attempt (wpAny_callSpecial?_slot (name := Str.ofString "__next__") hT slot_next (wpAny_call_entry slot_next hT entry_next ?_ (args_next _))))
  show wpAny _ _ (field (.ref it) 0 >>= _) _ _ s
  refine wpAny_bind (wpAny_field c rfl (x := .ref t) rfl ?_)
  show wpAny _ _ (PySem.Builtin.Itertools.itNumbersFrom (.ref it) 3 >>= _) _ _ s
  refine wpAny_bind ?_
  unfold PySem.Builtin.Itertools.itNumbersFrom
  refine wpAny_bind (wpAny_load c ?_)
  refine wpAny_pure ?_
  show wpAny _ _ (PySem.Builtin.Itertools.itIntField (.ref it) 1 >>= _) _ _ s
  refine wpAny_bind ?_
  unfold PySem.Builtin.Itertools.itIntField
  refine wpAny_bind (wpAny_field c rfl (x := .int st 0) rfl ?_)
  refine wpAny_pure ?_
  rcases nx with rfl | ⟨rfl, lt1, lt2, nx⟩
  · show wpAny _ _ (rule _ >>= _) _ _ s
    refine wpAny_bind (wpAny_rule ?_)
    exact stop_c hh fun e h' se k => fin e s.heap h' se fun c o _ q => k c o q
  · show wpAny _ _ (PySem.Builtin.Itertools.itPoolItems (.ref t) >>= _) _ _ s
    refine wpAny_bind (pool_items p ?_)
    have cj : (j != 1 + us.size - 2) = false ∧ i = us.size - 2 := by
      unfold nxtP at nx
      split at nx
      · cases nx
      · rename_i q
        split at nx
        · cases nx
        · rename_i r
          have q' : ¬ j + 1 < us.size := q
          have r' : ¬ i + 2 < us.size := r
          refine ⟨?_, by omega⟩
          have : j = 1 + us.size - 2 := by omega
          rw [← this]
          exact bne_self_eq_false j
    split
    · rename_i next heq
      have e : none = some next := by
        rw [← heq]
        conv => rhs; whnf
        simp [List.range_succ, cj.1, cj.2]
      cases e
    · refine wpAny_bind (wpAny_setField_rec c (by simp) fun h1 c1 sb1 => ?_)
      exact stop_c hh fun e h' se k => fin e h1 h' se fun c' o hc q => k c' o ((sb1.2 c' hc).trans q)
end
end Xci.Cb

namespace Xci
open PySem PySem.Spec PyProof.Rows L2
/-! ### for a, b in combinations(xs, 2) -/
def Itc (xs : List V) : It :=
  ⟨fun i H => ∃ p, seqP xs.length i = some p, fun i H v H' => ∃ T a b x y, seqP xs.length i = some (a, b) ∧ xs[a]? = some x ∧ xs[b]? = some y ∧ v = .ref T ∧ H T = none ∧ H' = upd H T (.tup [x, y]), fun i H => seqP xs.length i = none⟩
/-- how the iterator stands at its i-th turn -/
def StC (it t : Addr) (us : Array Value) (i : Nat) (h : Heap) : Prop := ∃ (st : Int) (last : Value) (a b : Nat), Cb.IsComb h it t st last a b ∧ Cb.IsPool h t us ∧ ((i = 0 ∧ st = (if 2 > us.size then 2 else 0) ∧ a = 0 ∧ b = 1) ∨ ∃ j, i = j + 1 ∧ st = 1 ∧ seqP us.size j = some (a, b))
theorem turn_comb {P : Program} {w : World} {K : PySem.W.Frag} {tg : Expr} {it t : Addr} {us : Array Value} {xs : List V} (ne : it ≠ t) (r : Vals xs us.toList) : Turn P w K tg (Itc xs) [it, t] it (StC it t us) where
  mem := by simp
  self := fun A i s Q E ⟨st, last, a, b, c, _⟩ h => Cb.iter_comb c h
  keep := fun i h h' ⟨st, last, a, b, c, p, q⟩ k => ⟨st, last, a, b, k it (by simp) _ c, k t (by simp) _ p, q⟩
  obj := fun i h ⟨st, last, a, b, c, p, q⟩ x hx => by
    rcases List.mem_cons.mp hx with rfl | hx
    · exact ⟨_, c, fun v z => nomatch z⟩
    · obtain rfl := List.mem_singleton.mp hx
      exact ⟨_, p, fun v z => nomatch z⟩
  item := by
    intro X hP hw hK hc i pins s σ H E I hf ⟨st, last, a, b, c, p, q⟩ ⟨pr, hg⟩
    subst hP hw hK
    have len : xs.length = us.size := by rw [r.length]; simp
    rw [len] at hg
    obtain ⟨a', b'⟩ := pr
    obtain ⟨o1, o2⟩ := seqP_ok hg
    obtain ⟨x, hx⟩ : ∃ x, xs[a']? = some x := ⟨_, List.getElem?_eq_getElem (by omega)⟩
    obtain ⟨y, hy⟩ : ∃ y, xs[b']? = some y := ⟨_, List.getElem?_eq_getElem (by omega)⟩
    obtain ⟨u, eu, ru⟩ := r.get hx
    obtain ⟨v, ev, rv⟩ := r.get hy
    have nx : (st = 0 ∧ a = 0 ∧ b = 1 ∧ a' = 0 ∧ b' = 1) ∨ (st = 1 ∧ a < b ∧ b < us.size ∧ nxtP us.size (a, b) = some (a', b')) := by
      rcases q with ⟨rfl, h1, h2, h3⟩ | ⟨j, rfl, h1, h2⟩
      · unfold seqP at hg
        split at hg
        · rename_i two
          cases hg
          refine .inl ⟨?_, h2, h3, rfl, rfl⟩
          rw [h1, if_neg (by omega)]
        · cases hg
      · have := seqP_ok h2
        refine .inr ⟨h1, this.1, this.2, ?_⟩
        have e : (seqP us.size j).bind (nxtP us.size) = some (a', b') := hg
        rw [h2] at e
        exact e
    refine Cb.next_item c p ne nx (va := u) (vb := v) (by simpa using eu) (by simpa using ev) fun h' c' hT hk => ?_
    refine ⟨_, rfl, go_of (s := { s with heap := h' }) c' rfl rfl (by decide) ?_⟩
    have new : ObjOk X.prog X.w (upd H s.heap.objs.size (.tup [x, y])) h' s.heap.objs.size (.tup [x, y]) :=
      ⟨by show 2 ≤ sizeLine; decide, [u, v], .cons ru (.cons rv .nil), ⟨_, hT, rfl, _, rfl⟩⟩
    have I1 : Inv X pins σ (upd H s.heap.objs.size (.tup [x, y])) { s with heap := h' } :=
      I.turnedNew (t' := s.toks) (ch := [it, t]) (fun b ob hb e => hk b ob (fun z => hb (by simp [z])) e) hf (Nat.le_refl _) new
    refine ⟨.ref s.heap.objs.size, _, I1, rfl, ⟨_, a', b', x, y, by rw [len]; exact hg, hx, hy, rfl, I.hok.fresh (Nat.le_refl _), rfl⟩, ⟨1, _, a', b', c', hk _ _ (Ne.symm ne) p, .inr ⟨i, rfl, rfl, hg⟩⟩, fun z hz => ?_⟩
    have lz : z < s.heap.objs.size := by
      rcases List.mem_cons.mp hz with rfl | hz
      · exact Heap.lt_size c
      · obtain rfl := List.mem_singleton.mp hz
        exact Heap.lt_size p
    rw [upd_ne (Nat.ne_of_lt lz)]
    exact (hf z hz).1
  done := by
    intro X hP hw hK hc i pins s σ H E I hf ⟨st, last, a, b, c, p, q⟩ hg
    subst hP hw hK
    have len : xs.length = us.size := by rw [r.length]; simp
    have hg : seqP xs.length i = none := hg
    rw [len] at hg
    have calm : X.A.in1.handled = none := I.ok.hd hc
    have nx : st = 2 ∨ (st = 1 ∧ a < b ∧ b < us.size ∧ nxtP us.size (a, b) = none) := by
      rcases q with ⟨rfl, h1, h2, h3⟩ | ⟨j, rfl, h1, h2⟩
      · unfold seqP at hg
        split at hg
        · cases hg
        · left; rw [h1, if_pos (by omega)]
      · have := seqP_ok h2
        refine .inr ⟨h1, this.1, this.2, ?_⟩
        have e : (seqP us.size j).bind (nxtP us.size) = none := hg
        rw [h2] at e
        exact e
    exact Cb.next_end calm c p nx fun h' hk => ⟨rfl, I.turnedL (t' := s.toks) (ch := [it, t]) (fun b o hb e => hk b o (fun z => hb (by simp [z])) e) hf⟩
def iComb (K : PySem.W.Frag) (ta : TA) : TI := fun σ H R => ta σ H fun vs H1 => ∃ (l : Addr) (xs : List V), vs = [.ref l, .int 2] ∧ SqL K H1 l xs ∧ xs.length ≤ 1000 ∧ R (Itc xs) H1
theorem pi_comb {X : Cx} {tg e e2 : Expr} {ta : TA} {p pos : Pos} (hg : Gl X "combinations") (hm : X.mg "combinations" = some (.type "itertools.combinations")) (ha : PA X [e, e2] ta)
    (hs : starEach [e, e2] X.env = (false, eval e X.env) :: starEach [e2] X.env := by rfl) (hpl : (backTo pos (starEach [e2] X.env)).any (·.1) = false := by rfl) :
    PI X tg (.Call (.Name "combinations" p) [e, e2] [] pos) (iComb X.K ta) := by
  refine ⟨fun pins s σ H R I h => Call_ (ld_glob I hg hm (callWith_type1 (thn (ha.run pos pins s σ H _ I h) fun us s1 ⟨vs, H1, I1, r1, q1⟩ => ?_) hs hpl))⟩
  obtain ⟨l, xs, rfl, hx, few, q⟩ := q1
  obtain ⟨u1, u2, rfl, r, r'⟩ := vals2 r1
  cases r
  obtain ⟨tk, rfl⟩ := r'
  obtain ⟨us, rx, tx, _⟩ := I1.list hx
  refine Cb.call_comb (us := us.toArray) (by simp; rw [← rx.length]; exact few) tx.isList fun h1 h' it t k1 lit lt ne k2 c pl => ?_
  have I2 : Inv X pins σ H1 { s1 with heap := h1 } := I1.kept (t' := s1.toks) k1
  have I3 : Inv X pins σ H1 { s1 with heap := h' } := I1.kept (t' := s1.toks) fun b o e => k2 b o (k1 b o e)
  refine Cb.iter_comb (s := { s1 with heap := h' }) c ?_
  refine ⟨it, [it, t], _, _, H1, rfl, I3, turn_comb ne (by simpa using rx), ⟨_, _, 0, 1, c, pl, .inl ⟨rfl, rfl, rfl, rfl⟩⟩, fun b hb => ?_, q⟩
  have low : h1.objs.size ≤ b := by
    rcases List.mem_cons.mp hb with rfl | hb
    · exact lit
    · obtain rfl := List.mem_singleton.mp hb
      exact lt
  exact I2.fpOk low (I2.hok.fresh low)
theorem walk_comb {xs : List V} {N : Nat} (h1 : ∀ i < N, ∃ p, seqP xs.length i = some p) (h2 : seqP xs.length N = none) : Walk (Itc xs) N (fun H => True) (fun i H v H' => ∃ T a b x y, seqP xs.length i = some (a, b) ∧ xs[a]? = some x ∧ xs[b]? = some y ∧ v = .ref T ∧ H T = none ∧ H' = upd H T (.tup [x, y])) :=
  ⟨fun i H hi _ => h1 i hi, fun H _ => h2, fun i H v H' hi _ h => h⟩
end Xci

namespace Xci
open PySem PySem.Spec PyProof.Rows L2
/-- the list at a and the tuple at b as they stand at each turn, their items in new pairs -/
def ItzN (K : PySem.W.Frag) (a b : Addr) : It :=
  ⟨fun i H => ∃ (xs ys : List V) (x y : V), (SqL K H a xs ∧ SqT K H b ys) ∧ xs[i]? = some x ∧ ys[i]? = some y,
    fun i H v H' => ∃ T x y, v = .ref T ∧ (H T = none ∧ H' = upd H T (.tup [x, y])) ∧ (∀ xs, SqL K H a xs → xs[i]? = some x) ∧ ∀ ys, SqT K H b ys → ys[i]? = some y,
    fun i H => ∃ xs ys : List V, (SqL K H a xs ∧ SqT K H b ys) ∧ xs.length = ys.length ∧ i = xs.length⟩
/-- the state of such a zip at its i-th turn -/
def ZStN (z TI TO i1 i2 a b : Addr) (i : Nat) (h : Heap) : Prop := IsZip h z TI TO .none ∧ IsTupOf2 h TI (.ref i1) (.ref i2) ∧ (∃ p q, IsTupOf2 h TO p q) ∧ h.IsListIter i1 a i ∧ h.IsTupleIter i2 b i
theorem fiveN {c z TI TO i1 i2 : Addr} (h : c ∈ [z, TI, TO, i1, i2]) : c = z ∨ c = TI ∨ c = TO ∨ c = i1 ∨ c = i2 := by simpa using h
theorem ZStN.low {z TI TO i1 i2 a b : Addr} {i : Nat} {h : Heap} (st : ZStN z TI TO i1 i2 a b i h) : ∀ c ∈ [z, TI, TO, i1, i2], c < h.objs.size := by
  obtain ⟨q1, q2, ⟨_, _, q3⟩, ⟨_, q4, _⟩, ⟨_, q5, _⟩⟩ := st
  intro c hc
  rcases fiveN hc with e | e | e | e | e <;> subst e
  · exact Heap.lt_size q1
  · exact Heap.lt_size q2
  · exact Heap.lt_size q3
  · exact Heap.lt_size q4
  · exact Heap.lt_size q5
theorem turn_zipN {P : Program} {w : World} {K : PySem.W.Frag} {elts : List Expr} {kk : Nat} {tpos : Pos} {a b z TI TO i1 i2 : Addr} (S : ZipSep2 z TI TO i1 i2 [i1, a] [i2, b]) (n1 : a ≠ i1) (n2 : b ≠ i2) :
    Turn P w K (.Tuple elts kk tpos) (ItzN K a b) [z, TI, TO, i1, i2] z (ZStN z TI TO i1 i2 a b) where
  mem := by simp
  self := fun _ _ _ _ _ st q => wpAny_pyIter_zip st.1 q
  keep := fun i h h' st k => by
    obtain ⟨q1, q2, ⟨p, q, q3⟩, q4, q5⟩ := st
    exact ⟨k _ (by simp) _ q1, k _ (by simp) _ q2, ⟨p, q, k _ (by simp) _ q3⟩, q4.at fun o e => k _ (by simp) o e, q5.at fun o e => k _ (by simp) o e⟩
  obj := fun i h st c hc => by
    obtain ⟨q1, q2, ⟨_, _, q3⟩, ⟨o4, q4, _, d4⟩, ⟨o5, q5, _, d5⟩⟩ := st
    rcases fiveN hc with e | e | e | e | e <;> subst e
    · exact ⟨_, q1, fun v q => nomatch q⟩
    · exact ⟨_, q2, fun v q => nomatch q⟩
    · exact ⟨_, q3, fun v q => nomatch q⟩
    · exact ⟨o4, q4, fun v q => by rw [d4] at q; cases q⟩
    · exact ⟨o5, q5, fun v q => by rw [d5] at q; cases q⟩
  item := by
    intro X hP hw hK hc i pins s σ H E I hf st hg
    subst hP hw hK
    have low := st.low
    obtain ⟨q1, q2, ⟨p, q, q3⟩, q4, q5⟩ := st
    obtain ⟨xs, ys, x, y, ⟨hx, hy⟩, ex, ey⟩ := hg
    obtain ⟨us, rx, tx, _⟩ := I.list hx
    obtain ⟨vs, ry, ty, _⟩ := I.tuple hy
    obtain ⟨u, eu, ru⟩ := rx.get ex
    obtain ⟨v, ev, rv⟩ := ry.get ey
    have lu : i < us.toArray.size := by simpa using (List.getElem?_eq_some_iff.mp eu).1
    have lv : i < vs.toArray.size := by simpa using (List.getElem?_eq_some_iff.mp ev).1
    have calm : X.A.in1.handled = none := I.ok.hd hc
    refine wpAny_pyNext_zipD2_item (prog := X.prog) (w := X.w) (A := X.A) S (Draws.list calm i1 a n1 us.toArray) (Draws.tuple calm i2 b n2 vs.toArray) q1 q2 q3 ⟨q4, tx.isList⟩ ⟨q5, ty⟩ lu lv fun u' v' h' tk eu' ev' z' TO' s1' s2' hT hsz hk => ?_
    obtain rfl : u' = u := Option.some.inj (eu'.symm.trans (by simpa using eu))
    obtain rfl : v' = v := Option.some.inj (ev'.symm.trans (by simpa using ev))
    refine ⟨_, rfl, wpAny_letOwnedTupleGo_zip (s := { s with heap := h', toks := tk }) z' fun h'' z'' sb => ?_⟩
    have zl : z < s.heap.objs.size := low z (by simp)
    have top : h''.get? s.heap.objs.size = some { cls := .type "tuple", data := .seq #[u', v'] } := (sb.2 _ (Nat.ne_of_gt zl)).trans hT
    have made : ObjOk X.prog X.w (upd H s.heap.objs.size (.tup [x, y])) h'' s.heap.objs.size (.tup [x, y]) := ⟨by show 2 ≤ sizeLine; decide, [u', v'], .cons ru (.cons rv .nil), _, top, rfl, _, rfl⟩
    have all : ∀ c o, c ∉ [z, TI, TO, i1, i2] → s.heap.get? c = some o → h''.get? c = some o := fun c o hb e =>
      (sb.2 c fun e' => hb (by simp [e'])).trans (hk c o (fun e' => hb (by simp [e'])) (fun e' => hb (by simp [e'])) (fun e' => hb (by simp [e'])) (fun e' => hb (by simp [e'])) e)
    have I1 : Inv X pins σ (upd H s.heap.objs.size (.tup [x, y])) { s with heap := h'', toks := tk } := I.turnedNew (ch := [z, TI, TO, i1, i2]) all hf (Nat.le_refl _) made
    refine ⟨.ref s.heap.objs.size, _, I1, rfl, ⟨_, x, y, rfl, ⟨I.hok.fresh (Nat.le_refl _), rfl⟩, fun l hl => by rw [I.list_inj hl hx]; exact ex, fun l hl => by rw [I.tuple_inj hl hy]; exact ey⟩, ⟨z'', ?_, ⟨u', v', ?_⟩, ?_, ?_⟩, fun c hcm => ?_⟩
    · exact (sb.2 _ S.TIz).trans (hk _ _ S.TIz S.TITO S.TIi1 S.TIi2 q2)
    · exact (sb.2 _ S.TOz).trans TO'
    · exact s1'.1.at fun o e => (sb.2 _ (Ne.symm S.zi1)).trans e
    · exact s2'.1.at fun o e => (sb.2 _ (Ne.symm S.zi2)).trans e
    · rw [upd_ne (Nat.ne_of_lt (low c hcm))]
      exact (hf c hcm).1
  done := by
    intro X hP hw hK hc i pins s σ H E I hf st hg
    subst hP hw hK
    obtain ⟨q1, q2, ⟨p, q, q3⟩, q4, q5⟩ := st
    obtain ⟨xs, ys, ⟨hx, hy⟩, el, rfl⟩ := hg
    obtain ⟨us, rx, tx, _⟩ := I.list hx
    obtain ⟨vs, ry, ty, _⟩ := I.tuple hy
    have l1 : xs.length = us.toArray.size := by rw [rx.length]; simp
    have l2 : ys.length = vs.toArray.size := by rw [ry.length]; simp
    have calm : X.A.in1.handled = none := I.ok.hd hc
    exact wpAny_pyNext_zipD2_end (prog := X.prog) (w := X.w) (A := X.A) S (Draws.list calm i1 a n1 us.toArray) (Draws.tuple calm i2 b n2 vs.toArray) q1 q2 q3 ⟨q4, tx.isList⟩ ⟨q5, ty⟩ (by omega) (by omega) (.inl l1) fun h' tk hk =>
      ⟨rfl, I.turnedL (t' := tk) (ch := [z, TI, TO, i1, i2]) (fun c o hb e => hk c o (fun e' => hb (by simp [e'])) (fun e' => hb (by simp [e'])) (fun e' => hb (by simp [e'])) (fun e' => hb (by simp [e'])) e) hf⟩
def iZipN (K : PySem.W.Frag) (ta : TA) : TI := fun σ H R => ta σ H fun vs H1 => ∃ a b xs ys, vs = [.ref a, .ref b] ∧ (SqL K H1 a xs ∧ SqT K H1 b ys) ∧ R (ItzN K a b) H1
theorem pi_zipN {X : Cx} {e e2 : Expr} {ta : TA} {p pos tpos : Pos} {elts : List Expr} {kk : Nat} (hg : Gl X "zip") (hm : X.mg "zip" = none) (ha : PA X [e, e2] ta)
    (hs : starEach [e, e2] X.env = (false, eval e X.env) :: starEach [e2] X.env := by rfl) (hpl : (backTo pos (starEach [e2] X.env)).any (·.1) = false := by rfl) :
    PI X (.Tuple elts kk tpos) (.Call (.Name "zip" p) [e, e2] [] pos) (iZipN X.K ta) := by
  refine ⟨fun pins s σ H R I h => Call_ (ld_blt I hg hm boot_zip (callWith_type1 (thn (ha.run pos pins s σ H _ I h) fun us s1 ⟨vs, H1, I1, r1, q1⟩ => ?_) hs hpl))⟩
  obtain ⟨a, b, xs, ys, rfl, ⟨hx, hy⟩, q⟩ := q1
  obtain ⟨u1, u2, rfl, r, r'⟩ := vals2 r1
  cases r
  cases r'
  obtain ⟨us, rx, tx, _⟩ := I1.list hx
  obtain ⟨vs, ry, ty, _⟩ := I1.tuple hy
  have al : a < s1.heap.objs.size := by obtain ⟨_, e, _⟩ := id tx.isList; exact Heap.lt_size e
  have bl : b < s1.heap.objs.size := by obtain ⟨_, e, _⟩ := id ty; exact Heap.lt_size e
  have sep := zip_sep2 (N := s1.heap.objs.size) (fp1 := [a]) (fp2 := [b]) (fun c hc => by rw [List.mem_singleton.mp hc]; exact al) (fun c hc => by rw [List.mem_singleton.mp hc]; exact bl)
  refine zip_begins2 (begins_list a us.toArray) (begins_tuple b vs.toArray) tx.isList ty fun h' z' TI' TO' o1 o2 hsz hk => wpAny_pyIter_zip z' ?_
  refine ⟨s1.heap.objs.size + 4, [s1.heap.objs.size + 4, s1.heap.objs.size + 2, s1.heap.objs.size + 3, s1.heap.objs.size, s1.heap.objs.size + 1], _, _, H1, rfl, I1.kept (t' := s1.toks) hk, turn_zipN sep (Nat.ne_of_lt al) (Nat.ne_of_lt (Nat.lt_succ_of_lt bl)),
    ⟨z', TI', ⟨_, _, TO'⟩, ⟨_, o1, rfl, rfl⟩, ⟨_, o2, rfl, rfl⟩⟩, fun c hc => ?_, q⟩
  have low : s1.heap.objs.size ≤ c := by
    rcases fiveN hc with e | e | e | e | e <;> rw [e]
    · exact Nat.le_add_right _ _
    · exact Nat.le_add_right _ _
    · exact Nat.le_add_right _ _
    · exact Nat.le_refl _
    · exact Nat.le_add_right _ _
  exact I1.fpOk low (I1.hok.fresh low)
theorem walk_zipN {K : PySem.W.Frag} {a b : Addr} {xs ys : List V} (hl : xs.length = ys.length) : Walk (ItzN K a b) xs.length (fun H => SqL K H a xs ∧ SqT K H b ys) (fun i H v H' => ∃ T x y, v = .ref T ∧ H T = none ∧ H' = upd H T (.tup [x, y]) ∧ xs[i]? = some x ∧ ys[i]? = some y) :=
  ⟨fun i H hi q => ⟨xs, ys, xs[i], ys[i]'(hl ▸ hi), q, List.getElem?_eq_getElem hi, List.getElem?_eq_getElem (hl ▸ hi)⟩, fun H q => ⟨xs, ys, q, hl, rfl⟩, fun i H v H' hi q ⟨T, x, y, e1, ⟨e2, e3⟩, f, g⟩ => ⟨T, x, y, e1, e2, e3, f xs q.1, g ys q.2⟩⟩
end Xci

namespace Xci
open PySem L2
section
variable {P : Program} {w : World} {K : PySem.W.Frag} {mg : Str → Option Value} {base : Heap}
abbrev sCommonBits : Stmt := top 43
theorem scCommonBits : FnScope ["lots", "forms", "shared", "lot", "form"] ["lots", "forms"] (defScope sCommonBits) := ⟨rfl, rfl, rfl, by decide +kernel, rfl, by decide +kernel, by decide +kernel⟩
set_option maxHeartbeats 4000000 in
theorem ok_commonBits {f : Addr} {fd : FuncData} (F : Fun K "common_bits" "common_bits" sCommonBits f fd) (T : Txt mg) : FnOk P w K mg base CX0 1 f fd ["lots", "forms"] spCommonO := by
  refine F.ok scCommonBits (fun vs H Q E h => ?_) (fun cdv A outer s H vs Q E hr h => ?_)
  · obtain ⟨q, p, cells, fs, rfl, _⟩ := h
    rfl
  · obtain ⟨q, p, cells, fs, rfl, L, k⟩ := h
    refine ⟨_, (pss_cons (ps_set (i := 2) scCommonBits.nd rfl (by first | exact Or.inl rfl | exact Or.inr rfl) pe_dnewK)
      (pss_cons (ps_for PassesOwn.never rfl (pi_zipN rfl T.zip (pa_cons (pv 0) (pa_cons (pv 1) pa_nil))) (pg_tup rfl (pgs_cons (pg_name (i := 3) scCommonBits.nd rfl (by first | exact Or.inl rfl | exact Or.inr rfl)) (pgs_cons (pg_name (i := 4) scCommonBits.nd rfl (by first | exact Or.inl rfl | exact Or.inr rfl)) pgs_nil))) (pss_one (ps_if (pt_cmpR op_notN (pv 4) pe_non (nomark _)) (pss_one (ps_dput (hu1 hr) (pv 2) (pv 4) (pe_op op_and (pe_dget2 (hu1 hr) (pv 2) (pv 4) (pv 3) ⟨rfl, rfl, rfl, rfl⟩) (pv 3)) rfl)) pss_nil)))
      (pss_one (ps_ret (pv 2))))), ?_⟩
    have hq := L.q
    have hp : H p = some (.tup (fs.map formV)) := L.p
    have lz : (bitsV cells).length = (fs.map formV).length := by rw [List.length_map, bitsV_len]; exact L.len
    refine fun d hd => ?_
    have s1 : Same H (upd H d (.dK [])) := Same.new hd
    have e1 : (upd H d (.dK [])) d = some (.dK []) := upd_same
    generalize upd H d (.dK []) = H1 at *
    refine ⟨_, rfl, _, rfl, q, p, _, _, rfl, ⟨SqL.of (s1 _ _ hq), sqT (s1 _ _ hp)⟩, ?_⟩
    refine for_it (walk_zipN (K := K) (a := q) (b := p) lz) (fun i σ H2 => Same H H2 ∧ H2 d = some (.dK (dkOf (comO (rowsOf (cells.take i) (fs.take i))).1 (maskV (comO (rowsOf (cells.take i) (fs.take i))).2))) ∧ (comO (rowsOf (cells.take i) (fs.take i))).1.length ≤ i ∧ ∃ o3 o4 : Option V, σ = [some (.ref q), some (.ref p), some (.ref d), o3, o4])
      ⟨s1, e1, Nat.le_refl _, _, _, rfl⟩ (fun i σ H2 _ ⟨e, _⟩ => ⟨SqL.of (e _ _ hq), sqT (e _ _ hp)⟩) ?_ ?_
    · rintro i x σ H2 H3 hi ⟨s2, e2, l2, o3, o4, rfl⟩ ⟨T0, x1, x2, rfl, hT, rfl, hx1, hx2⟩
      obtain ⟨c, ec, rfl⟩ := bits_at hx1
      rw [List.getElem?_map] at hx2
      obtain ⟨fo, hfo, rfl⟩ := Option.map_eq_some_iff.mp hx2
      have s3 : Same H2 (upd H2 T0 (.tup [.int (maskN c : Nat), formV fo])) := Same.new hT
      have eT : (upd H2 T0 (.tup [.int (maskN c : Nat), formV fo])) T0 = some (.tup [.int (maskN c : Nat), formV fo]) := upd_same
      generalize upd H2 T0 (.tup [.int (maskN c : Nat), formV fo]) = H3 at *
      have rows := rows_take ec hfo
      have i63 : i ≤ 63 := by rw [bitsV_len] at hi; exact Nat.le_trans (Nat.le_of_lt hi) L.few
      refine ⟨T0, _, rfl, sqT eT, rfl, _, _, rfl, _, _, rfl, rfl, ?_⟩
      refine ⟨_, rfl, rfl, _, rfl, ?_⟩
      rw [rows]
      generalize rowsOf (cells.take i) (fs.take i) = R at *
      cases fo with
      | none =>
        rw [List.append_nil]
        exact iteF ⟨s2.trans s3, s3 _ _ e2, by omega, _, _, rfl⟩
      | some z =>
        refine iteT ?_
        have e3 := s3 _ _ e2
        show _
        rw [com_snoc]
        generalize (comO R).1 = F at *
        generalize (comO R).2 = x0 at *
        have got : DGet H3 d (.str z) (if z ∈ F then some (maskV x0 z) else none) := by
          have := DGet.k (k := Sum.inr z) e3
          by_cases h : z ∈ F
          · rw [dk_val h] at this; rw [if_pos h]; exact this
          · rw [dk_none h] at this; rw [if_neg h]; exact this
        have val : ∃ a : Nat, ((if z ∈ F then some (maskV x0 z) else none : Option V).getD (.int (maskN c : Nat))) = .int (a : Nat) ∧ a &&& maskN c = nextN F x0 c z := by
          unfold nextN
          by_cases h : z ∈ F
          · rw [if_pos h, if_pos h]; exact ⟨x0 z, rfl, rfl⟩
          · rw [if_neg h, if_neg h]; exact ⟨maskN c, rfl, Nat.and_self _⟩
        obtain ⟨a, ea, en⟩ := val
        refine ⟨_, rfl, d, rfl, .inl ⟨_, .inl e3⟩, _, rfl, _, rfl, _, got, _, rfl, _, _, ea, rfl, ?_⟩
        refine ⟨_, rfl, _, rfl, d, _, rfl, DPut.k (k := Sum.inr z) e3 (small1000 (by rw [dk_len]; omega)), ?_⟩
        have put : putK (dkOf F (maskV x0)) (Sum.inr z) (V.int (Builtin.bitAnd (a : Int) (maskN c : Nat))) = dkOf (withZ F z) (maskV (setX x0 z (nextN F x0 c z))) := by rw [PySem.W.os_band, en, dk_with, setG_mask]
        exact ⟨fun b o h => by rw [upd_ne (ne_of_none h hd)]; exact s3 _ _ (s2 b o h), upd_same.trans (congrArg (fun l => some (HO.dK l)) put), Nat.le_trans (with_len F z) (by omega), _, _, rfl⟩
    · rintro σ H2 ⟨s2, e2, l2, o3, o4, rfl⟩
      rw [bitsV_len, rows_none _ _ _ (Nat.le_refl _) (by rw [L.len]; exact Nat.le_refl _)] at e2
      exact ⟨_, rfl, k d H2 e2 hd s2⟩
end
end Xci

namespace Xci
open PySem L2
section
variable {P : Program} {w : World} {K : PySem.W.Frag} {mg : Str → Option Value} {base : Heap}
abbrev sShrink : Stmt := top 44
theorem scShrink : FnScope ["lots", "forms", "left", "names", "done", "before", "number", "other", "form"] ["lots", "forms"] (defScope sShrink) := ⟨rfl, rfl, rfl, by decide +kernel, rfl, by decide +kernel, by decide +kernel⟩
set_option maxHeartbeats 8000000 in
theorem ok_shrink {f : Addr} {fd : FuncData} (F : Fun K "shrink" "shrink" sShrink f fd) (T : Txt mg) (HCb : Has P w K mg base "common_bits" ["lots", "forms"] 1 spCommonO) (HSt : Has P w K mg base "_is_struck" ["left", "form", "other", "lot"] 1 spStruck) : FnOk P w K mg base CX0 2 f fd ["lots", "forms"] spShrinkO := by
  refine F.ok scShrink (fun vs H Q E h => ?_) (fun cdv A outer s H vs Q E hr h => ?_)
  · obtain ⟨q, p, cells, fs, rfl, _⟩ := h
    rfl
  · obtain ⟨q, p, cells, fs, rfl, L, k⟩ := h
    refine ⟨_, (pss_cons (ps_set (i := 2) scShrink.nd rfl (by first | exact Or.inl rfl | exact Or.inr rfl) (pe_callH HCb (hr.mono (by decide)) rfl (pa_cons (pv 0) (pa_cons (pv 1) pa_nil))))
      (pss_cons (ps_set (i := 3) scShrink.nd rfl (by first | exact Or.inl rfl | exact Or.inr rfl) (pe_callTy (call_list_dK rfl) rfl T.list (by decide +kernel) (pa_cons (pv 2) pa_nil)))
      (pss_cons (ps_set (i := 4) scShrink.nd rfl (by first | exact Or.inl rfl | exact Or.inr rfl) (pe_lst pa_nil))
      (pss_cons (ps_set (i := 5) scShrink.nd rfl (by first | exact Or.inl rfl | exact Or.inr rfl) (pe_un un_neg pe_int))
      (pss_cons (ps_while PassesOwn.never (pt_cmpR op_lt (pv 5) (pe_callB call_len rfl T.len PySem.boot_len (pa_cons (pv 4) pa_nil)) (nomark _)) (C8.pss_cut (ps_set (i := 5) scShrink.nd rfl (by first | exact Or.inl rfl | exact Or.inr rfl) (pe_callB call_len rfl T.len PySem.boot_len (pa_cons (pv 4) pa_nil)))
      (pss_one (ps_for PassesOwn.never rfl (pi_enumT rfl T.enumerate (pa_cons (pv 1) pa_nil)) (pg_tup rfl (pgs_cons (pg_name (i := 6) scShrink.nd rfl (by first | exact Or.inl rfl | exact Or.inr rfl)) (pgs_cons (pg_name (i := 7) scShrink.nd rfl (by first | exact Or.inl rfl | exact Or.inr rfl)) pgs_nil))) (pss_cons (ps_if (pt_cmpR op_isN (pv 7) pe_non (nomark _)) (pss_one ps_continue) pss_nil)
      (pss_one (ps_for PassesOwn.never rfl (pi_list (pv 3)) (pg_name (i := 8) scShrink.nd rfl (by first | exact Or.inl rfl | exact Or.inr rfl)) (pss_one (ps_if (pt_val (pe_callH HSt (hr.mono (by decide)) rfl (pa_cons (pv 2) (pa_cons (pv 8) (pa_cons (pv 7) (pa_cons (pe_ix ix_list (pv 0) (pv 6) (fun _ _ => rfl)) pa_nil)))))) (pss_cons (ps_dput (hu1 hr) (pv 2) (pv 8) (pe_op op_and (pe_dget (hu1 hr) (pv 2) (pv 8) (fun _ _ => rfl)) (pe_dget (hu1 hr) (pv 2) (pv 7) (fun _ _ => rfl))) rfl)
      (pss_one (ps_expr (pe_bm PySem.F.plainAttrs_list PySem.F.slot_list_append PySem.F.type_list_append mt_append (pv 4) (pa_cons (pe_tup (pa_cons (pv 8) (pa_cons (pv 7) (pa_cons (pv 6) pa_nil)))) pa_nil))))) pss_nil)))))))))
      (pss_one (ps_ret (pe_tup (pa_cons (pv 2) (pa_cons (pv 4) pa_nil)))))))))), ?_⟩
    have hq := L.q
    have hp : H p = some (.tup (fs.map formV)) := L.p
    refine ⟨_, rfl, _, rfl, q, p, cells, fs, rfl, L, fun d H1 hd nd s1 => ?_⟩
    obtain ⟨N, S⟩ := com_ok (n := 6) _ (rows := rowsOf cells fs) rfl fun r hr => by
      obtain ⟨j, h1, _⟩ := rows_mem.mp hr
      exact L.ok _ (List.mem_of_getElem? h1)
    have fin : ∀ s n, s = rounds (comO (rowsOf cells fs)).1 cells fs n ((comO (rowsOf cells fs)).2, []) → round (comO (rowsOf cells fs)).1 cells fs s = s → RunEnd cells fs (comO (rowsOf cells fs)).1 s := fun s n e q => ⟨rfl, n, e, q⟩
    generalize (comO (rowsOf cells fs)).1 = F at *
    generalize (comO (rowsOf cells fs)).2 = x0 at *
    have small := S.small N L.ok
    have Fl : F.length ≤ 63 := Nat.le_trans N.len L.few
    have ptl := pot_le small
    have few : ∀ {s : StS}, Chain F cells fs x0 s.2 s.1 → s.2.length ≤ 4032 := fun C => by
      have := C.pot N.nd
      omega
    refine ⟨_, rfl, d, _, rfl, hd, fun ln hln => ?_⟩
    rw [dk_fst]
    have sA : Same H1 (upd H1 ln (.lst (F.map V.str))) := Same.new hln
    have eln : (upd H1 ln (.lst (F.map V.str))) ln = some (.lst (F.map V.str)) := upd_same
    generalize upd H1 ln (.lst (F.map V.str)) = H2 at *
    refine ⟨Nat.zero_le _, fun ld hld => ?_⟩
    have sB : Same H2 (upd H2 ld (.lst [])) := Same.new hld
    have eld : (upd H2 ld (.lst [])) ld = some (.lst []) := upd_same
    have s3 : Same H (upd H2 ld (.lst [])) := s1.trans (sA.trans sB)
    have hd3 : (upd H2 ld (.lst [])) d = some (.dK (dkOf F (maskV x0))) := sB _ _ (sA _ _ hd)
    have eln3 := sB _ _ eln
    have fln : H ln = none := by
      cases e : H ln with
      | none => rfl
      | some u => have := s1 _ _ e; rw [hln] at this; cases this
    have fld : H ld = none := by
      cases e : H ld with
      | none => rfl
      | some u => have := sA _ _ (s1 _ _ e); rw [hld] at this; cases this
    have ndl : d ≠ ln := ne_of_none hd hln
    have ndd : d ≠ ld := ne_of_none (sA _ _ hd) hld
    have nln : ln ≠ ld := ne_of_none eln hld
    generalize upd H2 ld (.lst []) = H3 at *
    refine ⟨_, rfl, ?_⟩
    refine ⟨fun m σ H4 => ∃ (s : StS) (n : Nat) (ys : List V) (b : Int) (o6 o7 o8 : Option V), s = rounds F cells fs n (x0, []) ∧ H4 d = some (.dK (dkOf F (maskV s.1))) ∧ H4 ld = some (.lst ys) ∧ Stks H4 ys s.2 ∧ H4 ln = some (.lst (F.map V.str)) ∧ Same H H4 ∧
      b ≤ (s.2.length : Int) ∧ (b = (s.2.length : Int) → round F cells fs s = s) ∧ m = 2 * pot F s.1 + (if b < (s.2.length : Int) then 1 else 0) ∧ σ = [some (.ref q), some (.ref p), some (.ref d), some (.ref ln), some (.ref ld), some (.int b), o6, o7, o8],
      ⟨_, (x0, []), 0, [], -1, _, _, _, rfl, hd3, eld, .nil, eln3, s3, (by show (-1 : Int) ≤ 0; decide), (fun h => absurd h (by show ¬ (-1 : Int) = 0; decide)), rfl, rfl⟩, ?_⟩
    rintro m σ H4 ⟨s, n, ys, b, o6, o7, o8, er, hd4, eld4, st4, eln4, s4, lb, q4, em, rfl⟩
    have C4 : Chain F cells fs x0 s.2 s.1 := by rw [er]; exact Chain.rounds N n
    have dl := few C4
    have ly := Paired.length st4
    refine ⟨_, rfl, _, rfl, _, _, rfl, .inl ⟨_, SqL.of eld4, rfl⟩, _, _, rfl, rfl, _, rfl, ?_⟩
    rw [ly]
    refine ite2 (fun hb => ?_) (fun hb => ?_)
    · have lt := of_decide_eq_true hb
      rw [if_pos lt] at em
      refine ⟨fun σ' H' => ∃ m', m' < m ∧ _, fun _ _ h => h, ?_⟩
      refine ⟨fun σ' H5 => H5 = H4 ∧ σ' = [some (.ref q), some (.ref p), some (.ref d), some (.ref ln), some (.ref ld), some (.int (s.2.length : Int)), o6, o7, o8], ⟨_, rfl, _, _, rfl, .inl ⟨_, SqL.of eld4, rfl⟩, rfl, by rw [ly]; rfl⟩, ?_⟩
      rintro σ' _ ⟨rfl, rfl⟩
      refine ⟨_, rfl, p, _, rfl, sqT (s4 _ _ hp), ?_⟩
      refine for_it (walk_enumT (K := K) (a := p) (xs := fs.map formV)) (fun i σ H5 => ∃ (ys : List V) (o6 o7 o8 : Option V), H5 d = some (.dK (dkOf F (maskV (rowsTo F cells fs i s).1))) ∧ H5 ld = some (.lst ys) ∧ Stks H5 ys (rowsTo F cells fs i s).2 ∧ H5 ln = some (.lst (F.map V.str)) ∧ Same H H5 ∧
        σ = [some (.ref q), some (.ref p), some (.ref d), some (.ref ln), some (.ref ld), some (.int (s.2.length : Int)), o6, o7, o8])
        ⟨ys, _, _, _, hd4, eld4, st4, eln4, s4, rfl⟩ (fun i σ H5 _ ⟨_, _, _, _, _, _, _, _, s, _⟩ => sqT (s _ _ hp)) ?_ ?_
      · rintro i v σ H5 H6 hi ⟨ys', o6', o7', o8', e1, e2, t5, e3, s5, rfl⟩ ⟨T0, xf, rfl, hT, rfl, hx⟩
        rw [List.getElem?_map] at hx
        obtain ⟨fo, hfo, rfl⟩ := Option.map_eq_some_iff.mp hx
        have s6 : Same H5 (upd H5 T0 (.tup [.int (i : Nat), formV fo])) := Same.new hT
        have eT : (upd H5 T0 (.tup [.int (i : Nat), formV fo])) T0 = some (.tup [.int (i : Nat), formV fo]) := upd_same
        generalize upd H5 T0 (.tup [.int (i : Nat), formV fo]) = H6 at *
        refine ⟨T0, _, rfl, sqT eT, rfl, _, _, rfl, _, _, rfl, rfl, ?_⟩
        refine ⟨_, rfl, rfl, _, rfl, ?_⟩
        rw [rowsTo_next]
        have C5 := Chain.rows N C4 i
        generalize rowsTo F cells fs i s = u at *
        cases fo with
        | none =>
          rw [rowRun_no hfo]
          exact iteT ⟨ys', _, _, _, s6 _ _ e1, s6 _ _ e2, t5.keep (TFr.same s6), s6 _ _ e3, s5.trans s6, rfl⟩
        | some o =>
          refine iteF ?_
          have lc : i < cells.length := by rw [L.len]; exact (List.getElem?_eq_some_iff.mp hfo).1
          have ec : cells[i]? = some cells[i] := List.getElem?_eq_getElem lc
          generalize cells[i] = c at ec
          rw [rowRun_yes ec hfo]
          have oF : o ∈ F := (N.mem o).mpr ⟨(c, o), rows_mem.mpr ⟨i, ec, hfo⟩, rfl⟩
          have atq : (bitsV cells)[i]? = some (.int (maskN c : Nat)) := by
            unfold bitsV
            rw [List.map_map, List.getElem?_map, ec]; rfl
          refine ⟨_, rfl, ln, rfl, ⟨_, SqL.of (s6 _ _ e3)⟩, ?_⟩
          refine for_list (K := K) (a := ln) (xs := F.map V.str) (fun kk σ H7 => ∃ (ys : List V) (o8 : Option V), H7 d = some (.dK (dkOf F (maskV (cellRun (F.take kk) o c i u).1))) ∧ H7 ld = some (.lst ys) ∧ Stks H7 ys (cellRun (F.take kk) o c i u).2 ∧ H7 ln = some (.lst (F.map V.str)) ∧ Same H H7 ∧
            σ = [some (.ref q), some (.ref p), some (.ref d), some (.ref ln), some (.ref ld), some (.int (s.2.length : Int)), some (.int (i : Nat)), some (.str o), o8])
            ⟨ys', _, s6 _ _ e1, s6 _ _ e2, t5.keep (TFr.same s6), s6 _ _ e3, s5.trans s6, rfl⟩ (fun kk σ H7 _ ⟨_, _, _, _, _, e, _⟩ => SqL.of e) ?_ ?_
          · rintro kk v σ H7 hk ⟨dy, o8'', g1, g2, t7, g3, s7, rfl⟩
            rw [List.getElem?_map] at hk
            obtain ⟨z, hz, rfl⟩ := Option.map_eq_some_iff.mp hk
            have zF := List.mem_of_getElem? hz
            rw [cellRun_next hz]
            have C7 : Chain F cells fs x0 (cellRun (F.take kk) o c i u).2 (cellRun (F.take kk) o c i u).1 := Chain.cell oF ec hfo (fun y hy => List.mem_of_mem_take hy) C5
            generalize cellRun (F.take kk) o c i u = y at *
            have dl7 := few C7
            have ly7 := Paired.length t7
            refine ⟨_, rfl, _, rfl, _, rfl, _, rfl, _, rfl, q, _, _, _, rfl, rfl, SqL.of (s7 _ _ hq), at_of (j := i) rfl atq, d, F, y.1, z, o, c, rfl, g1, zF, oF, _, rfl, ?_⟩
            refine ite2 (fun hs => ?_) (fun hs => ?_)
            · rw [Bool.and_eq_true, decide_eq_true_iff, decide_eq_true_iff] at hs
              have ey : stepZ o c i y z = (setX y.1 z (y.1 z &&& y.1 o), y.2 ++ [(z, o, i)]) := if_pos hs
              rw [ey]
              refine ⟨_, rfl, _, rfl, d, _, rfl, dk_get g1 zF, _, rfl, _, rfl, d, _, rfl, dk_get g1 oF, _, _, rfl, rfl, _, rfl, _, rfl, d, _, rfl, DPut.k (k := Sum.inr z) g1 (small1000 (by rw [dk_len]; omega)), ?_⟩
              have put : putK (dkOf F (maskV y.1)) (Sum.inr z) (V.int (Builtin.bitAnd (y.1 z : Int) (y.1 o : Int))) = dkOf F (maskV (setX y.1 z (y.1 z &&& y.1 o))) := by rw [PySem.W.os_band, dk_put zF, setG_mask]
              have g1' : (upd H7 d (HO.dK (putK (dkOf F (maskV y.1)) (Sum.inr z) (V.int (Builtin.bitAnd (y.1 z : Int) (y.1 o : Int)))))) d = some (.dK (dkOf F (maskV (setX y.1 z (y.1 z &&& y.1 o))))) := upd_same.trans (congrArg (fun l => some (HO.dK l)) put)
              have g2' := (upd_ne (H := H7) (o := HO.dK (putK (dkOf F (maskV y.1)) (Sum.inr z) (V.int (Builtin.bitAnd (y.1 z : Int) (y.1 o : Int))))) ndd.symm).trans g2
              have g3' := (upd_ne (H := H7) (o := HO.dK (putK (dkOf F (maskV y.1)) (Sum.inr z) (V.int (Builtin.bitAnd (y.1 z : Int) (y.1 o : Int))))) ndl.symm).trans g3
              have s8 : Same H (upd H7 d (HO.dK (putK (dkOf F (maskV y.1)) (Sum.inr z) (V.int (Builtin.bitAnd (y.1 z : Int) (y.1 o : Int)))))) := fun b u hb => by rw [upd_ne (ne_of_none hb nd)]; exact s7 b u hb
              have t8 : Stks (upd H7 d (HO.dK (putK (dkOf F (maskV y.1)) (Sum.inr z) (V.int (Builtin.bitAnd (y.1 z : Int) (y.1 o : Int)))))) dy y.2 := t7.keep fun b xs hb => by rw [upd_ne (ne_of hb g1 (by intro z; cases z))]; exact hb
              show _
              generalize upd H7 d (HO.dK (putK (dkOf F (maskV y.1)) (Sum.inr z) (V.int (Builtin.bitAnd (y.1 z : Int) (y.1 o : Int))))) = H8 at *
              refine ⟨_, rfl, .inl ⟨rfl, _, SqL.of g2'⟩, _, rfl, _, rfl, _, rfl, by show 3 ≤ sizeLine; decide, fun t ht => ?_⟩
              have s9 : Same H8 (upd H8 t (.tup [.str z, .str o, .int (i : Nat)])) := Same.new ht
              have et : (upd H8 t (.tup [.str z, .str o, .int (i : Nat)])) t = some (.tup [.str z, .str o, .int (i : Nat)]) := upd_same
              generalize upd H8 t (.tup [.str z, .str o, .int (i : Nat)]) = H9 at *
              have g2'' := s9 _ _ g2'
              have tf := TFr.lst (o := .lst (dy ++ [.ref t])) g2''
              refine ⟨ld, _, _, rfl, rfl, g2'', Nat.lt_of_le_of_lt (show dy.length ≤ 4032 * 2 by omega) (by decide), dy ++ [.ref t], _, ?_, upd_same, Paired.app ((t8.keep (TFr.same s9)).keep tf) (Paired.one (Tup.keep tf ⟨t, rfl, et⟩)), ?_, ?_, rfl⟩
              · rw [upd_ne ndd]; exact s9 _ _ g1'
              · rw [upd_ne nln]; exact s9 _ _ g3'
              · exact fun b u hb => by rw [upd_ne (ne_of_none hb fld)]; exact s9 _ _ (s8 b u hb)
            · have ey : stepZ o c i y z = y := if_neg fun h => hs (by rw [Bool.and_eq_true, decide_eq_true_iff, decide_eq_true_iff]; exact h)
              rw [ey]
              exact ⟨dy, _, g1, g2, t7, g3, s7, rfl⟩
          · rintro σ H7 ⟨dy, o8'', g1, g2, t7, g3, s7, rfl⟩
            rw [List.length_map, List.take_length] at g1 t7
            exact ⟨dy, _, _, _, g1, g2, t7, g3, s7, rfl⟩
      · rintro σ H5 ⟨ys', o6', o7', o8', e1, e2, t5, e3, s5, rfl⟩
        rw [List.length_map] at e1 t5
        have er' : round F cells fs s = rounds F cells fs (n + 1) (x0, []) := by rw [er]; rfl
        have mo : More s (round F cells fs s) := more_rows _ _
        have C5 : Chain F cells fs x0 (round F cells fs s).2 (round F cells fs s).1 := Chain.rows N C4 _
        have pt : (round F cells fs s).2.length = s.2.length ∨ pot F (round F cells fs s).1 < pot F s.1 := pot_round N.nd s
        refine ⟨2 * pot F (round F cells fs s).1 + (if (s.2.length : Int) < ((round F cells fs s).2.length : Int) then 1 else 0), ?_, round F cells fs s, n + 1, ys', (s.2.length : Int), _, _, _, er', e1, e2, t5, e3, s5, ?_, fun h => ?_, rfl, rfl⟩
        · rcases pt with h | h
          · rw [if_neg (by omega), mo.2 h]; omega
          · split <;> omega
        · have := mo.1; omega
        · have h' := mo.2 (by omega)
          rw [h', h']
    · have e : b = (s.2.length : Int) := by
        have := of_decide_eq_false (Bool.eq_false_iff.mpr hb)
        omega
      refine ⟨_, rfl, _, rfl, by show 2 ≤ sizeLine; decide, fun t ht => ?_⟩
      have s5 : Same H4 (upd H4 t (.tup [.ref d, .ref ld])) := Same.new ht
      exact k t d ld F s ys _ upd_same (s5 _ _ hd4) (s5 _ _ eld4) (st4.keep (TFr.same s5)) (fin s n er (q4 e)) nd fld (s4.trans s5)
end
end Xci

namespace Xci
open PySem L2
theorem bits6 {n : Nat} (h : n < 64) : Builtin.Int.intBits (n : Int) ≤ 6 ∧ n < 2 ^ Builtin.Int.intBits (n : Int) := by
  unfold Builtin.Int.intBits
  rcases Nat.eq_zero_or_pos n with rfl | hp
  · decide
  · rw [if_neg (by simpa using Nat.pos_iff_ne_zero.mp hp)]
    have e : ((n : Nat) : Int).natAbs = n := Int.natAbs_natCast n
    rw [e]
    have := (Nat.log2_lt (by omega)).mpr (show n < 2 ^ 6 from h)
    exact ⟨by omega, Nat.lt_log2_self⟩
theorem odd_bit {n i : Nat} : Builtin.bitAnd ((n : Int) / 2 ^ i) 1 = if n.testBit i = true then 1 else 0 := by
  have e : (n : Int) / 2 ^ i = ((n / 2 ^ i : Nat) : Int) := by rw [Int.natCast_ediv, Int.natCast_pow]; rfl
  rw [e, show (1 : Int) = ((1 : Nat) : Int) from rfl, PySem.W.os_band, Nat.and_one_is_mod, Nat.testBit_eq_decide_div_mod_eq]
  rcases Nat.mod_two_eq_zero_or_one (n / 2 ^ i) with h | h <;> simp [h]
/-- an expression's truth as a test -/
def tTru (K : PySem.W.Frag) (t : TE) : TT := fun σ H Q => t σ H fun x H' => ∃ k, TruV K x H' k ∧ Q k H'
theorem pt_truK {X : Cx} {a : Expr} {ta : TE} (ha : PE X a ta) (he : ∀ whole, isTrue a X.env whole = (do let v ← whole; standAt a.pos; holding [v] (truthy v))) : PT X a (tTru X.K ta) := pt_truth ha he
theorem nodup_take {F : List Str} (nd : F.Nodup) {i : Nat} {z : Str} (h : F[i]? = some z) : z ∉ F.take i := fun m => by
  obtain ⟨j, hj⟩ := List.mem_iff_getElem?.mp m
  have lj : j < i := by
    have := (List.getElem?_eq_some_iff.mp hj).1
    rw [List.length_take] at this; omega
  rw [List.getElem?_take_of_lt lj] at hj
  obtain ⟨h1, h2⟩ := List.getElem?_eq_some_iff.mp hj
  obtain ⟨h3, h4⟩ := List.getElem?_eq_some_iff.mp h
  exact absurd (h2.trans h4.symm) (List.pairwise_iff_getElem.mp nd j i h1 h3 lj)
/-- a dict comprehension over a locked dict's pairs -/
theorem dc_items {d : Addr} {od : Obj} {kvs : List (Key × V)} {g : TG} {tt : TT} {tk tv : TE} {vs : List Nat} {σ : L2.St} {H1 : Hp} {D : Addr} {Qd : Hp → Prop} (Pv : Nat → Hp → Prop) (h0 : Pv 0 (upd H1 D (.dK []))) (hl : ∀ i H, Pv i H → H d = some (.frz od (.dK kvs)))
    (hs : ∀ i k v H T, kvs[i]? = some (k, v) → Pv i H → H T = none → g (.ref T) (wipe σ vs) (upd H T (.tup [kV k, v])) fun σ2 H2 => wipe σ2 vs = wipe σ vs ∧ tt σ2 H2 fun b H3 =>
      if b = true then tk σ2 H3 fun y H4 => tv σ2 H4 fun z H5 => ∃ kvs k, y = kV k ∧ H5 D = some (.dK kvs) ∧ kvs.length < sizeLine ∧ Pv (i + 1) (upd H5 D (.dK (putK kvs k z))) else Pv (i + 1) H3) (hd : ∀ H, Pv kvs.length H → Qd H) :
    ∃ W : Nat → Nat → Hp → Prop, (∃ m, W 0 m (upd H1 D (.dK []))) ∧ ∀ i m H, W i m H →
      ((Iti d od kvs).stop i H ∧ Qd H) ∨ ((Iti d od kvs).go i H ∧ ∃ Nx : Hp → Prop, (∀ H', Nx H' → ∃ m', m' < m ∧ W (i + 1) m' H') ∧ ∀ x H', (Iti d od kvs).yld i H x H' → g x (wipe σ vs) H' fun σ2 H2 => wipe σ2 vs = wipe σ vs ∧ tt σ2 H2 fun b H3 =>
        if b = true then tk σ2 H3 fun y H4 => tv σ2 H4 fun z H5 => ∃ kvs k, y = kV k ∧ H5 D = some (.dK kvs) ∧ kvs.length < sizeLine ∧ Nx (upd H5 D (.dK (putK kvs k z))) else Nx H3) := by
  refine ⟨fun i m H => m = kvs.length - i ∧ i ≤ kvs.length ∧ Pv i H, ⟨kvs.length, by simp, Nat.zero_le _, h0⟩, ?_⟩
  rintro i m H ⟨rfl, hi, p⟩
  have q := hl i H p
  by_cases hlt : i < kvs.length
  · refine .inr ⟨⟨q, hlt⟩, Pv (i + 1), fun H' p' => ⟨kvs.length - (i + 1), by omega, rfl, hlt, p'⟩, fun x H' y => ?_⟩
    obtain ⟨T, k, v, e1, rfl, hT, rfl⟩ := y
    exact hs i k v H T e1 p hT
  · have e : i = kvs.length := by omega
    subst e
    exact .inl ⟨⟨q, Nat.le_refl _⟩, hd H p⟩
section
variable {P : Program} {w : World} {K : PySem.W.Frag} {mg : Str → Option Value} {base : Heap}
abbrev sMarksOf : Stmt := top 16
theorem scMarksOf : FnScope ["lot", "mark"] ["lot"] (defScope sMarksOf) := ⟨rfl, rfl, rfl, by decide +kernel, rfl, by decide +kernel, by decide +kernel⟩
theorem ok_marksOf {f : Addr} {fd : FuncData} (F : Fun K "marks_of" "marks_of" sMarksOf f fd) (T : Txt mg) : FnOk P w K mg base CX0 1 f fd ["lot"] spMarksOf := by
  refine F.ok scMarksOf (fun vs H Q E h => ?_) (fun cdv A outer s H vs Q E hr h => ?_)
  · obtain ⟨n, rfl, _⟩ := h
    rfl
  · obtain ⟨n, rfl, hn, k⟩ := h
    refine ⟨_, (pss_one (ps_ret (pe_callTy call_tuple_of rfl T.tuple (by decide +kernel) (pa_cons (pe_lc (own := [("mark", 1)]) rfl scMarksOf.nd (pi_range1 rfl T.range (pa_cons (pe_bits (pv 0)) pa_nil)) (blkOk_by (N := ["lot", "mark"]) (sc := defScope sMarksOf) (by decide +kernel)) (fun _ _ _ _ _ => (pg_name (i := 1) scMarksOf.nd rfl (by first | exact Or.inl rfl | exact Or.inr rfl))) (fun _ _ _ _ _ => pts_one (show PT _ _ (tTru K _) from pt_truK (pe_op op_and (pe_op op_shr (pv 0) (pv 1)) pe_int) (fun _ => rfl))) (fun _ _ _ _ _ => (pv 1))) pa_nil)))), ?_⟩
    obtain ⟨b6, bn⟩ := bits6 hn
    generalize hb : Builtin.Int.intBits (n : Int) = b at *
    refine ⟨_, rfl, _, rfl, _, rfl, by rw [hb]; omega, by rw [hb]; omega, fun D hD => ?_⟩
    rw [hb]
    refine lc_range (lo := 0) (n := b) (fun i H4 => Same H H4 ∧ H4 D = some (.lst ((((List.range i).filter fun j => n.testBit j).map fun j : Nat => (j : Int)).map V.int))) ⟨Same.new hD, upd_same⟩ ?_ ?_
    · rintro i H4 hi ⟨sm, e4⟩
      have i0 : (0 + (i : Int)) = ((i : Nat) : Int) := by omega
      refine ⟨rfl, _, rfl, _, rfl, _, _, rfl, rfl, by omega, _, _, rfl, rfl, ?_⟩
      have o := odd_bit (n := n) (i := i)
      have sm1 : ((((List.range i).filter fun j => n.testBit j).map fun j : Nat => (j : Int)).map V.int).length ≤ 63 := by
        rw [List.length_map, List.length_map]
        exact Nat.le_trans (List.length_filter_le _ _) (by rw [List.length_range]; omega)
      by_cases h : n.testBit i = true
      · rw [if_pos h] at o
        refine ⟨true, by show true = (Builtin.bitAnd ((n : Int) / 2 ^ (0 + (i : Int)).toNat) 1 != 0); rw [i0, Int.toNat_natCast, o]; rfl, iteT ⟨_, rfl, _, e4, small1000 (Nat.le_trans sm1 (by decide)), fun b o hb' => by rw [upd_ne (ne_of_none hb' hD)]; exact sm b o hb', ?_⟩⟩
        rw [upd_same, List.range_succ, List.filter_append, List.filter_cons_of_pos h, List.map_append, List.map_append, i0]
        rfl
      · rw [if_neg h] at o
        refine ⟨false, by show false = (Builtin.bitAnd ((n : Int) / 2 ^ (0 + (i : Int)).toNat) 1 != 0); rw [i0, Int.toNat_natCast, o]; rfl, iteF ⟨sm, ?_⟩⟩
        rw [List.range_succ, List.filter_append, List.filter_cons_of_neg h, List.filter_nil, List.append_nil]
        exact e4
    · rintro H4 ⟨sm, e4⟩
      refine ⟨D, _, rfl, .inl ⟨SqL.of e4, fun p hp => ?_⟩⟩
      rw [← marksN_short b6 bn]
      exact k p _ upd_same (sm.free hp) (sm.trans (Same.new hp))
abbrev sStrikes : Stmt := top 47
theorem scStrikes : FnScope ["table", "_", "done"] ["table"] (defScope sStrikes) := ⟨rfl, rfl, rfl, by decide +kernel, rfl, by decide +kernel, by decide +kernel⟩
theorem ok_strikes {f CF C : Addr} {fd : FuncData} (F : Fun K "strikes" "strikes" sStrikes f fd) (TT : TabTxt K mg C) (FT : FamTxt K mg CF) (HCb : Has P w K mg base "cell_bits" ["family"] 2 (spCellBits CF)) (HSh : Has P w K mg base "shrink" ["lots", "forms"] 2 spShrinkO) : FnOk P w K mg base CX0 3 f fd ["table"] (spStrikes CF C) := by
  refine F.ok scStrikes (fun vs H Q E h => ?_) (fun cdv A outer s H vs Q E hr h => ?_)
  · obtain ⟨t, fam, pf, fs, many, pc, cy, cells, rfl, _⟩ := h
    rfl
  · obtain ⟨t, fam, pf, fs, many, pc, cy, cells, rfl, ⟨dt, ht⟩, hp, hfam, hpc, cm, ok, few, len, k⟩ := h
    refine ⟨_, (pss_cons (ps_asg (pe_callH HSh (hr.mono (by decide)) rfl (pa_cons (pe_callH HCb (hr.mono (by decide)) rfl (pa_cons (pe_fld (pv 0) rfl) pa_nil)) (pa_cons (pe_fld (pv 0) rfl) pa_nil))) (pg_tup rfl (pgs_cons (pg_name (i := 1) scStrikes.nd rfl (by first | exact Or.inl rfl | exact Or.inr rfl)) (pgs_cons (pg_name (i := 2) scStrikes.nd rfl (by first | exact Or.inl rfl | exact Or.inr rfl)) pgs_nil))))
      (pss_one (ps_ret (pv 2)))), ?_⟩
    refine ⟨_, rfl, t, C, dt, _, _, rfl, ht, TT.cl, TT.nF, tabF_family _ _, fam, many, pc, cy, cells, rfl, hfam, hpc, cm, ok, by omega, fun q H1 hq s1 => ?_⟩
    refine ⟨_, rfl, t, C, dt, _, _, rfl, s1 _ _ ht, TT.cl, TT.nO, tabF_forms _ _, q, pf, cells, fs, rfl, ⟨hq, s1 _ _ hp, len, ok, by omega⟩, fun u d l G st ys H2 hu hd hl hys run _ fl s2 => ?_⟩
    refine ⟨u, _, rfl, sqT hu, rfl, _, _, rfl, _, _, rfl, rfl, ?_⟩
    exact ⟨_, rfl, k l G st ys H2 run hl hys (s1.free fl) (s1.trans s2)⟩
abbrev sShrunk : Stmt := top 46
theorem scShrunk : FnScope ["table", "left", "_", "form", "lot"] ["table"] (defScope sShrunk) := ⟨rfl, rfl, rfl, by decide +kernel, rfl, by decide +kernel, by decide +kernel⟩
set_option maxHeartbeats 4000000 in
theorem ok_shrunk {f CF C : Addr} {fd : FuncData} (F : Fun K "shrunk" "shrunk" sShrunk f fd) (TT : TabTxt K mg C) (FT : FamTxt K mg CF) (HCb : Has P w K mg base "cell_bits" ["family"] 2 (spCellBits CF)) (HSh : Has P w K mg base "shrink" ["lots", "forms"] 2 spShrinkO) (HMo : Has P w K mg base "marks_of" ["lot"] 1 spMarksOf) : FnOk P w K mg base CX0 3 f fd ["table"] (spShrunk CF C) := by
  refine F.ok scShrunk (fun vs H Q E h => ?_) (fun cdv A outer s H vs Q E hr h => ?_)
  · obtain ⟨t, fam, pf, fs, many, pc, cy, cells, rfl, _⟩ := h
    rfl
  · obtain ⟨t, fam, pf, fs, many, pc, cy, cells, rfl, ⟨dt, ht⟩, hp, hfam, hpc, cm, ok, few, len, k⟩ := h
    refine ⟨_, (pss_cons (ps_asg (pe_callH HSh (hr.mono (by decide)) rfl (pa_cons (pe_callH HCb (hr.mono (by decide)) rfl (pa_cons (pe_fld (pv 0) rfl) pa_nil)) (pa_cons (pe_fld (pv 0) rfl) pa_nil))) (pg_tup rfl (pgs_cons (pg_name (i := 1) scShrunk.nd rfl (by first | exact Or.inl rfl | exact Or.inr rfl)) (pgs_cons (pg_name (i := 2) scShrunk.nd rfl (by first | exact Or.inl rfl | exact Or.inr rfl)) pgs_nil))))
      (pss_one (ps_ret (pe_lock (pe_dc (own := [("form", 3), ("lot", 4)]) rfl scShrunk.nd (pi_items (pv 1)) (blkOk_by (N := ["table", "left", "_", "form", "lot"]) (sc := defScope sShrunk) (by decide +kernel)) (fun _ _ _ _ _ => (show PG _ _ (gTup K 2 _) from pg_tup rfl (pgs_cons (pg_name (i := 3) scShrunk.nd rfl (by first | exact Or.inl rfl | exact Or.inr rfl)) (pgs_cons (pg_name (i := 4) scShrunk.nd rfl (by first | exact Or.inl rfl | exact Or.inr rfl)) pgs_nil)))) (fun _ _ _ _ _ => pts_nil) (fun _ _ _ _ _ => (pv 3)) (fun _ _ _ _ _ => (pe_callH HMo (hr.mono (by decide)) rfl (pa_cons (pv 4) pa_nil)))))))), ?_⟩
    refine ⟨_, rfl, t, C, dt, _, _, rfl, ht, TT.cl, TT.nF, tabF_family _ _, fam, many, pc, cy, cells, rfl, hfam, hpc, cm, ok, by omega, fun q H1 hq s1 => ?_⟩
    refine ⟨_, rfl, t, C, dt, _, _, rfl, s1 _ _ ht, TT.cl, TT.nO, tabF_forms _ _, q, pf, cells, fs, rfl, ⟨hq, s1 _ _ hp, len, ok, by omega⟩, fun u d l G st ys H2 hu hd hl hys run fd _ s2 => ?_⟩
    refine ⟨u, _, rfl, sqT hu, rfl, _, _, rfl, _, _, rfl, rfl, ?_⟩
    refine ⟨d, _, hd, trivial, fun od => ?_⟩
    have small : ∀ z ∈ G, st.1 z < 64 := run.small ok
    have Gn : G.Nodup := run.nodup ok
    have Gl : G.length ≤ 24 := Nat.le_trans (run.len ok) few
    refine ⟨_, rfl, d, od, dkOf G (maskV st.1), rfl, upd_same, fun D hD => ?_⟩
    have ndD : D ≠ d := fun e => by rw [e, upd_same] at hD; cases hD
    have fD : H2 D = none := by rw [upd_ne ndD] at hD; exact hD
    refine dc_items (fun i H3 => (∀ b o, H2 b = some o → b ≠ d → H3 b = some o) ∧ H3 d = some (.frz od (.dK (dkOf G (maskV st.1)))) ∧ ∃ g : Str → Addr, HeldAt H3 D (G.take i) (fun z => marksN (st.1 z)) g)
      ⟨fun b o hb h1 => by rw [upd_ne (ne_of_none hb fD), upd_ne h1]; exact hb, by rw [upd_ne ndD.symm]; exact upd_same, fun _ => D, upd_same, nofun⟩ (fun i H3 h => h.2.1) ?_ ?_
    · rintro i key v H3 T0 hkv ⟨kp, hd3, g, hg⟩ hT0
      unfold dkOf at hkv
      rw [List.getElem?_map] at hkv
      obtain ⟨z, hz, ez⟩ := Option.map_eq_some_iff.mp hkv
      cases ez
      have zG := List.mem_of_getElem? hz
      have eT : (upd H3 T0 (.tup [kV (Sum.inr z), maskV st.1 z])) T0 = some (.tup [V.str z, .int (st.1 z : Nat)]) := upd_same
      have sT : Same H3 (upd H3 T0 (.tup [kV (Sum.inr z), maskV st.1 z])) := Same.new hT0
      generalize upd H3 T0 (.tup [kV (Sum.inr z), maskV st.1 z]) = H4 at *
      refine ⟨T0, _, rfl, sqT eT, rfl, _, _, rfl, _, _, rfl, rfl, rfl, ?_⟩
      refine ⟨_, rfl, _, rfl, st.1 z, rfl, small z zG, fun p H5 hp5 fp s5 => ?_⟩
      have s35 := sT.trans s5
      have hD5 := s35 _ _ hg.at_
      have nt : z ∉ G.take i := nodup_take Gn hz
      have tk : G.take (i + 1) = G.take i ++ [z] := by rw [List.take_add_one, hz]; rfl
      have put : putK (dkOf (G.take i) (refV g)) (Sum.inr z) (V.ref p) = dkOf (G.take (i + 1)) (refV (setAS g z p)) := by rw [dk_new nt, setGS_ref, tk]
      have npD : p ≠ D := ne_of hp5 hD5 (by intro q; cases q)
      refine ⟨_, Sum.inr z, rfl, hD5, small1000 (by rw [dk_len]; exact Nat.le_trans (List.length_take_le' _ _) (by omega)), ?_⟩
      rw [put]
      refine ⟨fun b o hb h1 => by rw [upd_ne (ne_of_none hb fD)]; exact s35 _ _ (kp b o hb h1), by rw [upd_ne ndD.symm]; exact s35 _ _ hd3, setAS g z p, upd_same, fun y hy => ?_⟩
      unfold setAS
      by_cases q : y = z
      · subst q
        rw [if_pos rfl, upd_ne npD]
        exact hp5
      · have yF : y ∈ G.take i := by
          rw [tk] at hy
          exact (List.mem_append.mp hy).elim id fun h => absurd (List.mem_singleton.mp h) q
        have := s35 _ _ (hg.each y yF)
        rw [if_neg q, upd_ne (ne_of this hD5 (by intro z; cases z))]
        exact this
    · rintro H3 ⟨kp, hd3, g, hg⟩
      rw [dk_len, List.take_length] at hg
      refine ⟨hd3, k D G st g _ run ⟨by rw [upd_ne ndD]; exact hg.at_, fun z hz => by rw [upd_ne (ne_of (hg.each z hz) hd3 (by intro q; cases q))]; exact hg.each z hz⟩ ((s1.trans s2).free fD) fun b o hb => ?_⟩
      have nb : b ≠ d := fun e => by rw [e, s1.free fd] at hb; cases hb
      rw [upd_ne nb]
      exact kp b o ((s1.trans s2) _ _ hb) nb
end
end Xci

namespace Xci
open PySem L2
open StX (pa_star)
theorem eqv_mks (a b : List Int) : PyData.eqv (mkD a) (mkD b) = decide (a = b) := by
  have := any_mk b [a]
  simp only [List.map_cons, List.map_nil, List.any_cons, List.any_nil, Bool.or_false] at this
  rw [this]
  by_cases h : a = b
  · subst h; simp
  · have : ¬ b ∈ [a] := fun q => h (List.mem_singleton.mp q).symm
    rw [decide_eq_false h, decide_eq_false this]
theorem sh_mkD (ms : List Int) : SeqAt.shaped (mkD ms) = true := by
  have h1 := lay_mk ms
  have h2 := deep_mk ms
  simp [SeqAt.shaped, h1, h2]
theorem marksN_inj {n m : Nat} (hn : n < 64) (hm : m < 64) (h : marksN n = marksN m) : n = m := has_ext fun k => by rw [← marksN_mem hn, ← marksN_mem hm, h]
section
variable {P : Program} {w : World} {K : PySem.W.Frag} {mg : Str → Option Value} {base : Heap}
abbrev sFirstEqual : Stmt := top 49
theorem scFirstEqual : FnScope ["table", "left", "forms", "one", "other"] ["table"] (defScope sFirstEqual) := ⟨rfl, rfl, rfl, by decide +kernel, rfl, by decide +kernel, by decide +kernel⟩
set_option maxHeartbeats 4000000 in
theorem ok_firstEqual {f CF C : Addr} {fd : FuncData} (F : Fun K "_first_equal" "_first_equal" sFirstEqual f fd) (T : Txt mg) (TCm : mg "combinations" = some (.type "itertools.combinations")) (HSk : Has P w K mg base "shrunk" ["table"] 3 (spShrunk CF C)) (HSp : Has P w K mg base "spoken" ["table"] 2 (spSpoken C)) : FnOk P w K mg base CX0 4 f fd ["table"] (spFirstEqualX CF C) := by
  refine F.ok scFirstEqual (fun vs H Q E h => ?_) (fun cdv A outer s H vs Q E hr h => ?_)
  · obtain ⟨t, cells, fs, rfl, _⟩ := h
    rfl
  · obtain ⟨t, cells, fs, rfl, tab, k⟩ := h
    refine ⟨_, (pss_cons (ps_set (i := 1) scFirstEqual.nd rfl (by first | exact Or.inl rfl | exact Or.inr rfl) (pe_callH HSk (hr.mono (by decide)) rfl (pa_cons (pv 0) pa_nil)))
      (pss_cons (ps_set (i := 2) scFirstEqual.nd rfl (by first | exact Or.inl rfl | exact Or.inr rfl) (pe_callTy call_list_of rfl T.list (by decide +kernel) (pa_cons (pe_callH HSp (hr.mono (by decide)) rfl (pa_cons (pv 0) pa_nil)) pa_nil)))
      (pss_cons (ps_for PassesOwn.never rfl (pi_comb rfl TCm (pa_cons (pv 2) (pa_cons pe_int pa_nil))) (pg_tup rfl (pgs_cons (pg_name (i := 3) scFirstEqual.nd rfl (by first | exact Or.inl rfl | exact Or.inr rfl)) (pgs_cons (pg_name (i := 4) scFirstEqual.nd rfl (by first | exact Or.inl rfl | exact Or.inr rfl)) pgs_nil))) (pss_one (ps_if (pt_cmpR (op_eqD (hu64 hr)) (pe_dget (hu1 hr) (pv 1) (pv 3) (fun _ _ => rfl)) (pe_dget (hu1 hr) (pv 1) (pv 4) (fun _ _ => rfl)) (nomark _)) (pss_one (ps_ret (pe_tup (pa_cons (pv 3) (pa_cons (pv 4) pa_nil))))) pss_nil)))
      (pss_one (ps_ret pe_non))))), ?_⟩
    obtain ⟨fam, pf, many, pc, cy, hta, hp, hfam, hpc, cm⟩ := tab.ex
    have ok6 := tab.ok
    have few := tab.few
    have len := tab.len
    refine ⟨_, rfl, t, fam, pf, fs, many, pc, cy, cells, rfl, hta, hp, hfam, hpc, cm, ok6, few, len, fun d G st g H1 run hd _ s1 => ?_⟩
    obtain ⟨dt, et⟩ := hta
    refine ⟨_, rfl, t, fam, pf, fs, rfl, ⟨dt, s1 _ _ et⟩, s1 _ _ hp, by omega, fun r zs H2 rise hr2 s2 => ?_⟩
    refine ⟨r, _, rfl, .inr (sqT hr2), fun q hq => ?_⟩
    have s3 : Same H2 (upd H2 q (.lst (zs.map V.str))) := Same.new hq
    have e3 : (upd H2 q (.lst (zs.map V.str))) q = some (.lst (zs.map V.str)) := upd_same
    generalize upd H2 q (.lst (zs.map V.str)) = H3 at *
    have s13 := s2.trans s3
    have s03 := s1.trans s13
    have lz : zs.length ≤ 24 := by
      have := rise.nd.length_le_of_subset (l₂ := fs.filterMap id) fun z hz => List.mem_filterMap.mpr ⟨some z, (rise.all z).mp hz, rfl⟩
      have := List.length_filterMap_le id fs
      omega
    have mem : ∀ z, z ∈ G ↔ z ∈ zs := fun z => by rw [(run.names ok6).mem, ← named_in len.symm, rise.all]
    have hd3 := hd.same s13
    refine ⟨_, rfl, q, zs.map V.str, rfl, SqL.of e3, by rw [List.length_map]; omega, ?_⟩
    obtain ⟨N, _, n1, n2⟩ := seqP_len (zs.map V.str).length
    refine for_it (walk_comb (xs := zs.map V.str) n1 n2) (fun i σ H4 => Same H3 H4 ∧ (∀ (j a b : Nat) (y z : Str), j < i → seqP zs.length j = some (a, b) → zs[a]? = some y → zs[b]? = some z → st.1 y ≠ st.1 z) ∧ ∃ o3 o4 : Option V, σ = [some (.ref t), some (.ref d), some (.ref q), o3, o4])
      ⟨Same.refl _, fun j a b y z hj => absurd hj (Nat.not_lt_zero j), _, _, rfl⟩ (fun i σ H4 _ _ => trivial) ?_ ?_
    · rintro i v σ H4 H5 hi ⟨s4, no, o3, o4, rfl⟩ ⟨T0, a, b, x, y, hab, hx, hy, rfl, hT, rfl⟩
      rw [List.getElem?_map] at hx hy
      obtain ⟨x', ex, rfl⟩ := Option.map_eq_some_iff.mp hx
      obtain ⟨y', ey, rfl⟩ := Option.map_eq_some_iff.mp hy
      rw [List.length_map] at hab
      have s5 : Same H4 (upd H4 T0 (.tup [.str x', .str y'])) := Same.new hT
      have e5 : (upd H4 T0 (.tup [.str x', .str y'])) T0 = some (.tup [.str x', .str y']) := upd_same
      generalize upd H4 T0 (.tup [.str x', .str y']) = H5 at *
      have hd5 := hd3.same (s4.trans s5)
      have xG := (mem x').mpr (List.mem_of_getElem? ex)
      have yG := (mem y').mpr (List.mem_of_getElem? ey)
      have lt := seqP_ok hab
      have unl : x' ≠ y' := fun e => by
        obtain ⟨h1, h2⟩ := List.getElem?_eq_some_iff.mp ex
        obtain ⟨h3, h4⟩ := List.getElem?_eq_some_iff.mp ey
        exact List.pairwise_iff_getElem.mp rise.nd a b h1 h3 lt.1 (by rw [h2, h4, e])
      refine ⟨T0, _, rfl, sqT e5, rfl, _, _, rfl, _, _, rfl, rfl, ?_⟩
      refine ⟨_, rfl, _, rfl, d, _, rfl, dgetD hd5 xG, _, rfl, _, rfl, d, _, rfl, dgetD hd5 yG, mkD (marksN (st.1 x')), mkD (marksN (st.1 y')), dp_mk ⟨_, rfl, hd5.each _ xG⟩, dp_mk ⟨_, rfl, hd5.each _ yG⟩, sh_mkD _, sh_mkD _, _, rfl, ?_⟩
      rw [eqv_mks]
      refine ite2 (fun same => ?_) (fun diff => ?_)
      · have same' := of_decide_eq_true same
        have eq := marksN_inj (run.small ok6 x' xG) (run.small ok6 y' yG) same'
        refine ⟨_, rfl, _, rfl, by show 2 ≤ sizeLine; decide, fun p hp' => ?_⟩
        have up : upTo x' y' := by
          obtain ⟨h1, h2⟩ := List.getElem?_eq_some_iff.mp ex
          obtain ⟨h3, h4⟩ := List.getElem?_eq_some_iff.mp ey
          have := List.pairwise_iff_getElem.mp (sorted_pairs zs rise.up) a b h1 h3 lt.1
          rw [h2, h4] at this
          exact this
        have less : x'.cps.toList < y'.cps.toList := Classical.byContradiction fun q' => unl (str_ext (List.le_antisymm up (List.not_lt.mp q')))
        exact k (.ref p) G st _ run (.inr ⟨p, x', y', rfl, upd_same, xG, yG, eq, less⟩) (s03.trans ((s4.trans s5).trans (Same.new hp')))
      · refine ⟨s4.trans s5, fun j a' b' y z hj h1 h2 h3 => ?_, _, _, rfl⟩
        rcases Nat.lt_or_ge j i with l | l
        · exact no j a' b' y z l h1 h2 h3
        · have : j = i := by omega
          subst this
          rw [hab] at h1
          cases h1
          rw [ex] at h2
          rw [ey] at h3
          cases h2
          cases h3
          exact fun e => diff (decide_eq_true (by rw [e]))
    · rintro σ H4 ⟨s4, no, o3, o4, rfl⟩
      rw [List.length_map] at n2
      refine k .non G st _ run (.inl ⟨fun y hy z hz e => ?_, rfl⟩) (s03.trans s4)
      obtain ⟨a, ha⟩ := List.mem_iff_getElem?.mp ((mem y).mp hy)
      obtain ⟨b, hb⟩ := List.mem_iff_getElem?.mp ((mem z).mp hz)
      have la := (List.getElem?_eq_some_iff.mp ha).1
      have lb := (List.getElem?_eq_some_iff.mp hb).1
      rcases Nat.lt_trichotomy a b with l | l | l
      · obtain ⟨j, hj, hp'⟩ := seqP_pair l lb n2
        exact absurd e (no j a b y z hj hp' ha hb)
      · subst l
        rw [ha] at hb
        exact Option.some.inj hb
      · obtain ⟨j, hj, hp'⟩ := seqP_pair l la n2
        exact absurd e.symm (no j b a z y hj hp' hb ha)
abbrev sShrunkBar : Stmt := top 50
theorem scShrunkBar : FnScope ["table", "pair"] ["table"] (defScope sShrunkBar) := ⟨rfl, rfl, rfl, by decide +kernel, rfl, by decide +kernel, by decide +kernel⟩
theorem ok_shrunkBar {f CF C : Addr} {fd : FuncData} (F : Fun K "shrunk_bar" "shrunk_bar" sShrunkBar f fd) (HFe : Has P w K mg base "_first_equal" ["table"] 4 (spFirstEqualX CF C)) (HSt : Has P w K mg base "strikes" ["table"] 3 (spStrikes CF C)) : FnOk P w K mg base CX0 5 f fd ["table"] (spShrunkBar CF C) := by
  refine F.ok scShrunkBar (fun vs H Q E h => ?_) (fun cdv A outer s H vs Q E hr h => ?_)
  · obtain ⟨t, cells, fs, rfl, _⟩ := h
    rfl
  · obtain ⟨t, cells, fs, rfl, tab, k⟩ := h
    refine ⟨_, (pss_cons (ps_set (i := 1) scShrunkBar.nd rfl (by first | exact Or.inl rfl | exact Or.inr rfl) (pe_callH HFe (hr.mono (by decide)) rfl (pa_cons (pv 0) pa_nil)))
      (pss_one (ps_ret (pe_ifExp (pt_cmpR op_isN (pv 1) pe_non (nomark _)) pe_non (pe_tup (pa_cons (pe_callH HSt (hr.mono (by decide)) rfl (pa_cons (pv 0) pa_nil)) (pa_star (pv 1) pa_nil))))))), ?_⟩
    refine ⟨_, rfl, t, cells, fs, rfl, tab, fun v G st H1 run alt s1 => ?_⟩
    rcases alt with ⟨ap, rfl⟩ | ⟨p, z, o, rfl, hp, zG, oG, e, lt⟩
    · exact ⟨_, rfl, rfl, _, rfl, iteT (k .non G st H1 run (.inl ⟨ap, rfl⟩) s1)⟩
    · refine ⟨_, rfl, rfl, _, rfl, iteF ?_⟩
      have tab1 := tab.same s1
      obtain ⟨fam, pf, many, pc, cy, hta, hp', hfam, hpc, cm⟩ := tab1.ex
      refine ⟨_, rfl, t, fam, pf, fs, many, pc, cy, cells, rfl, hta, hp', hfam, hpc, cm, tab.ok, tab.few, tab.len, fun l G' st' ys H2 run' hl hys fl s2 => ?_⟩
      obtain ⟨rfl, rfl⟩ := run.one run'
      refine ⟨_, rfl, p, _, rfl, .inl (sqT (s2 _ _ hp)), by show 3 ≤ sizeLine; decide, fun u hu => ?_⟩
      have s3 : Same H2 (upd H2 u (.tup [.ref l, .str z, .str o])) := Same.new hu
      exact k (.ref u) G st _ run (.inr ⟨u, l, ys, z, o, rfl, upd_same, s3 _ _ hl, s1.free fl, hys.keep (TFr.same s3), zG, oG, e, lt⟩) (s1.trans (s2.trans s3))
end
end Xci

namespace Xci
open PySem L2
def spWithinX (CF C CB : Addr) : Sp := fun vs H Q _ => ∃ (t : Addr) (cells : List (List Int)) (fs : List (Option Str)), vs = [.ref t] ∧ TabX CF C H t cells fs ∧
  ∀ (v : V) (F : List Str) (s : StS) (H' : Hp), RunEnd cells fs F s → ((ApartX F s.1 ∧ ∃ (b : Addr) (zs : List Str), v = .ref b ∧ Rising fs zs ∧ BookSt CB H' b "within" [] (zs.map fun z => (marksN (s.1 z), z))) ∨ (¬ ApartX F s.1 ∧ v = .non)) → Same H H' → Q v H'
section
variable {P : Program} {w : World} {K : PySem.W.Frag} {mg : Str → Option Value} {base : Heap}
abbrev sWithinBook : Stmt := top 48
theorem scWithinBook : FnScope ["table", "left", "form"] ["table"] (defScope sWithinBook) := ⟨rfl, rfl, rfl, by decide +kernel, rfl, by decide +kernel, by decide +kernel⟩
set_option maxHeartbeats 4000000 in
theorem ok_withinBook {f CF C CB : Addr} {fd : FuncData} (F : Fun K "within_book" "within_book" sWithinBook f fd) (T : Txt mg) (HFe : Has P w K mg base "_first_equal" ["table"] 4 (spFirstEqualX CF C)) (HSk : Has P w K mg base "shrunk" ["table"] 3 (spShrunk CF C)) (HSp : Has P w K mg base "spoken" ["table"] 2 (spSpoken C)) (HBk : HasC P w K mg base "Book" CB ["self", "manner", "entries", "weights"] 6 (spBook CB)) : FnOk P w K mg base CX0 8 f fd ["table"] (spWithinX CF C CB) := by
  refine F.ok scWithinBook (fun vs H Q E h => ?_) (fun cdv A outer s H vs Q E hr h => ?_)
  · obtain ⟨t, cells, fs, rfl, _⟩ := h
    rfl
  · obtain ⟨t, cells, fs, rfl, tab, k⟩ := h
    refine ⟨_, (pss_cons (ps_if (pt_cmpR op_notN (pe_callH HFe (hr.mono (by decide)) rfl (pa_cons (pv 0) pa_nil)) pe_non (nomark _)) (pss_one (ps_ret pe_non)) pss_nil)
      (pss_cons (ps_set (i := 1) scWithinBook.nd rfl (by first | exact Or.inl rfl | exact Or.inr rfl) (pe_callH HSk (hr.mono (by decide)) rfl (pa_cons (pv 0) pa_nil)))
      (pss_one (ps_ret (pe_makeH HBk (hr.mono (by decide)) rfl (pa_cons pe_str (pa_cons (pe_callTy call_tuple_of rfl T.tuple (by decide +kernel) (pa_cons (pe_lc (own := [("form", 2)]) rfl scWithinBook.nd (pi_tup (pe_callH HSp (hr.mono (by decide)) rfl (pa_cons (pv 0) pa_nil))) (blkOk_by (N := ["table", "left", "form"]) (sc := defScope sWithinBook) (by decide +kernel)) (fun _ _ _ _ _ => (pg_name (i := 2) scWithinBook.nd rfl (by first | exact Or.inl rfl | exact Or.inr rfl))) (fun _ _ _ _ _ => pts_nil) (fun _ _ _ _ _ => (pe_tup (pa_cons (pe_dget (hu1 hr) (pv 1) (pv 2) (fun _ _ => rfl)) (pa_cons (pv 2) pa_nil))))) pa_nil)) (pa_cons pe_non pa_nil)))))))), ?_⟩
    have ok6 := tab.ok
    have few := tab.few
    have len := tab.len
    refine ⟨_, rfl, t, cells, fs, rfl, tab, fun v G st H1 run alt s1 => ⟨rfl, _, rfl, ?_⟩⟩
    rcases alt with ⟨ap, rfl⟩ | ⟨p, z, o, rfl, hp, zG, oG, ez, lt⟩
    · refine iteF ?_
      have tab1 := tab.same s1
      obtain ⟨fam, pf, many, pc, cy, hta, hp, hfam, hpc, cm⟩ := tab1.ex
      refine ⟨_, rfl, t, fam, pf, fs, many, pc, cy, cells, rfl, hta, hp, hfam, hpc, cm, ok6, few, len, fun d G' st' g H2 run' hd _ s2 => ?_⟩
      obtain ⟨rfl, rfl⟩ := run.one run'
      obtain ⟨dt, et⟩ := hta
      refine ⟨_, rfl, t, fam, pf, fs, rfl, ⟨dt, s2 _ _ et⟩, s2 _ _ hp, by omega, fun r zs H3 rise hr3 s3 => ?_⟩
      have mem : ∀ z, z ∈ zs → z ∈ G := fun z hz => by rw [(run.names ok6).mem, ← named_in len.symm]; exact (rise.all z).mp hz
      have lz : zs.length ≤ 24 := by
        have := rise.nd.length_le_of_subset (l₂ := fs.filterMap id) fun z hz => List.mem_filterMap.mpr ⟨some z, (rise.all z).mp hz, rfl⟩
        have := List.length_filterMap_le id fs
        omega
      have hd3 := hd.same s3
      have s13 := s2.trans s3
      refine ⟨r, rfl, ⟨_, sqT hr3⟩, fun D hD => ?_⟩
      refine lc_tup (K := K) (a := r) (xs := zs.map V.str) (fun i H4 => ∃ ys : List V, Same H3 H4 ∧ H4 D = some (.lst ys) ∧ Ents H4 ys ((zs.take i).map fun z => (marksN (st.1 z), z))) ⟨[], Same.new hD, upd_same, .nil⟩ (fun i H4 _ ⟨_, s, _⟩ => sqT (s _ _ hr3)) ?_ ?_
      · rintro i x H4 hi ⟨ys, s4, e4, en⟩
        rw [List.getElem?_map] at hi
        obtain ⟨z, hz, rfl⟩ := Option.map_eq_some_iff.mp hi
        have zG := mem z (List.mem_of_getElem? hz)
        have hd4 := hd3.same s4
        have ly := Paired.length en
        rw [List.length_map] at ly
        have lt := List.length_take_le' i zs
        refine ⟨rfl, _, rfl, _, rfl, d, _, rfl, dgetD hd4 zG, _, rfl, by show 2 ≤ sizeLine; decide, fun u hu => ?_⟩
        have s5 : Same H4 (upd H4 u (.tup [.ref (g z), .str z])) := Same.new hu
        have e5 : (upd H4 u (.tup [.ref (g z), .str z])) u = some (.tup [.ref (g z), .str z]) := upd_same
        generalize upd H4 u (.tup [.ref (g z), .str z]) = H5 at *
        have tf := TFr.lst (o := .lst (ys ++ [.ref u])) (s5 _ _ e4)
        refine ⟨ys, s5 _ _ e4, small1000 (by omega), ys ++ [.ref u], fun b o hb => by rw [upd_ne (ne_of_none hb hD)]; exact s5 _ _ (s4 b o hb), upd_same, ?_⟩
        rw [List.take_add_one, hz, List.map_append]
        exact Paired.app ((Ents.keep (TFr.same s5) en).keep tf) (Paired.one (EntV.keep tf ⟨.ref (g z), ⟨u, rfl, e5⟩, ⟨g z, rfl, s5 _ _ (hd4.each z zG)⟩⟩))
      · rintro H4 ⟨ys, s4, e4, en⟩
        rw [List.length_map, List.take_length] at en
        refine ⟨D, _, rfl, .inl ⟨SqL.of e4, fun p hp' => ?_⟩⟩
        have s5 : Same H4 (upd H4 p (.tup ys)) := Same.new hp'
        have e5 : (upd H4 p (.tup ys)) p = some (.tup ys) := upd_same
        generalize upd H4 p (.tup ys) = H5 at *
        have en5 := Ents.keep (TFr.same s5) en
        intro x dx nx ndx nex
        have s6 : Same H5 (upd (upd H5 dx (.own x)) x (.ins CB dx [])) := fun b o e => by rw [upd_ne (ne_of_none e nx), upd_ne (ne_of_none e ndx)]; exact e
        have en6 : ∀ {H6 : Hp}, (∀ b o, (upd (upd H5 dx (.own x)) x (.ins CB dx [])) b = some o → b ≠ x → H6 b = some o) → Ents H6 ys (zs.map fun z => (marksN (st.1 z), z)) := fun kq => Ents.keep (fun b xs e => kq _ _ (s6 _ _ e) (ne_of_none e nx)) en5
        have eok : ∀ e ∈ zs.map (fun z => (marksN (st.1 z), z)), EntOk e := fun e he => by
          obtain ⟨z, hz, rfl⟩ := List.mem_map.mp he
          exact ⟨marksN_ok _, tab.word z ((rise.all z).mp hz)⟩
        refine ⟨x, dx, "within", p, .non, ys, zs.map fun z => (marksN (st.1 z), z), rfl, upd_same, .inr (.inl rfl), .inl ⟨by decide +kernel, rfl⟩, s6 _ _ e5, Ents.keep (TFr.same s6) en5, eok, by rw [List.length_map]; omega, fun H6 hx kq => ⟨rfl, ?_⟩⟩
        exact k (.ref x) G st H6 run (.inl ⟨ap, x, zs, rfl, rise, ⟨⟨p, .non, ys, hx, kq _ _ (s6 _ _ e5) (ne_of_none e5 nx), en6 kq, .inl ⟨by decide +kernel, rfl⟩⟩, eok, by rw [List.length_map]; omega⟩⟩) fun b o hb => kq b o (s6 _ _ (s5 _ _ (s4 _ _ (s13 _ _ (s1 _ _ hb))))) (ne_of_none (s5 _ _ (s4 _ _ (s13 _ _ (s1 _ _ hb)))) nx)
    · exact iteT (k .non G st H1 run (.inr ⟨fun ap => by
        have e := ap z zG o oG ez
        rw [e] at lt
        exact List.lt_irrefl _ lt, rfl⟩) s1)
end
end Xci

namespace Xci
open PySem L2
def spLawFlag : Sp := fun vs H Q _ => ∃ a b : Bool, vs = [.bl a, .bl b] ∧ Q (.bl (decide (a = b))) H
section
variable {P : Program} {w : World} {K : PySem.W.Frag} {mg : Str → Option Value} {base : Heap}
abbrev sLawFlag : Stmt := top 76
theorem scLawFlag : FnScope ["told", "due"] ["told", "due"] (defScope sLawFlag) := ⟨rfl, rfl, rfl, by decide +kernel, rfl, by decide +kernel, by decide +kernel⟩
theorem ok_lawFlag {f : Addr} {fd : FuncData} (F : Fun K "_law_flag" "_law_flag" sLawFlag f fd) (T : Txt mg) : FnOk P w K mg base CX0 1 f fd ["told", "due"] spLawFlag := by
  refine F.ok scLawFlag (fun vs H Q E h => ?_) (fun cdv A outer s H vs Q E hr h => ?_)
  · obtain ⟨a, b, rfl, _⟩ := h
    rfl
  · obtain ⟨a, b, rfl, k⟩ := h
    refine ⟨_, (pss_one (ps_ret (pe_and (pe_callB call_isi rfl T.isinstance (by decide +kernel) (pa_cons (pv 0) (pa_cons (pe_bltn rfl T.bool (by decide +kernel) (v := V.ty "bool") rfl) pa_nil))) (pe_one (pe_cmpR op_eq (pv 0) (pv 1) (nomark _)))))), ?_⟩
    refine ⟨_, rfl, _, _, _, _, true, rfl, .ty _, .base (.bl _), kit_ty (by decide +kernel), _, rfl, ?_⟩
    refine iteT ⟨_, rfl, _, rfl, rfl, ?_⟩
    have e : decide (V.bl a = V.bl b) = decide (a = b) := by rw [decide_eq_decide, V.bl.injEq]
    rw [e]
    exact k
end
end Xci

namespace Xci
open PySem L2
theorem isa_strB (d : PyData) : isaD "str" d = true ↔ ∃ z, d = .str z := by cases d <;> simp [isaD, isaT, tyD]
theorem isa_lstB (d : PyData) : isaD "list" d = true ↔ ∃ ds, d = .list ds := by cases d <;> simp [isaD, isaT, tyD]
theorem spoken_no {fs : List (Option Str)} {d : PyData} (h : isaD "str" d ≠ true) : spokenB fs d = false := by
  cases d <;> first | rfl | exact absurd ((isa_strB _).mpr ⟨_, rfl⟩) h
theorem spokenB_is {fs : List (Option Str)} {d : PyData} (h : spokenB fs d = true) : ∃ z, d = .str z ∧ some z ∈ fs := by
  cases d with
  | str z => exact ⟨z, rfl, of_decide_eq_true h⟩
  | none => cases h
  | bool _ => cases h
  | int _ => cases h
  | list _ => cases h
  | tuple _ => cases h
  | dict _ => cases h
theorem dt_str {N : Out} {H : Hp} {v : V} {z : Str} (h : Dt N H v (.str z)) : v = .str z := by cases h; rfl
theorem dt_int {N : Out} {H : Hp} {v : V} {i : Int} (h : Dt N H v (.int i)) : v = .int i := by cases h; rfl
theorem dt_lst {N : Out} {H : Hp} {v : V} {ds : List PyData} (h : Dt N H v (.list ds)) : ∃ p xs, v = .ref p ∧ H p = some (.lst xs) ∧ DtAll N H xs ds := by
  cases h with
  | lst n h r => exact ⟨_, _, rfl, h, r⟩
theorem btw_is {lo hi : Int} {d : PyData} (h : btwD lo hi d = true) : ∃ i, d = .int i ∧ lo ≤ i ∧ i ≤ hi := by
  cases d with
  | int i => exact ⟨i, rfl, of_decide_eq_true h⟩
  | none => cases h
  | bool _ => cases h
  | str _ => cases h
  | list _ => cases h
  | tuple _ => cases h
  | dict _ => cases h
section
variable {P : Program} {w : World} {K : PySem.W.Frag} {mg : Str → Option Value} {base : Heap}
abbrev sIsSpoken : Stmt := top 23
theorem scIsSpoken : FnScope ["table", "thing"] ["table", "thing"] (defScope sIsSpoken) := ⟨rfl, rfl, rfl, by decide +kernel, rfl, by decide +kernel, by decide +kernel⟩
theorem okd_spoken {f C : Addr} {fd : FuncData} (F : Fun K "is_spoken" "is_spoken" sIsSpoken f fd) (T : Txt mg) (TT : TabTxt K mg C) : FnOk P w K mg base CX0 1 f fd ["table", "thing"] (spSpokenD C) := by
  refine F.ok scIsSpoken (fun vs H Q E h => ?_) (fun cdv A outer s H vs Q E hr h => ?_)
  · obtain ⟨N, t, fam, p, fs, v, d, rfl, _⟩ := h
    rfl
  · obtain ⟨N, t, fam, p, fs, v, d, rfl, ⟨dt, et⟩, hp, hd, k⟩ := h
    refine ⟨_, (pss_one (ps_ret (pe_and (pe_callB call_isi rfl T.isinstance (by decide +kernel) (pa_cons (pv 1) (pa_cons (pe_bltn rfl T.str (by decide +kernel) (v := V.ty "str") rfl) pa_nil))) (pe_one (pe_cmpR op_in_seq (pv 1) (pe_fld (pv 0) rfl) (by with_unfolding_all rfl)))))), ?_⟩
    refine ⟨_, rfl, _, _, _, _, isaD "str" d, rfl, .ty _, dt_ty hd, kit_D d (by simp), _, rfl, ?_⟩
    refine ite2 (fun h => ?_) (fun h => ?_)
    · obtain ⟨z, rfl⟩ := (isa_strB d).mp h
      obtain rfl := dt_str hd
      refine ⟨_, rfl, _, rfl, t, C, dt, _, _, rfl, et, TT.cl, TT.nO, tabF_forms _ _, p, _, rfl, .inr (sqT hp), rfl, forms_flat fs, ?_⟩
      show Q (V.bl (inV (.str z) (fs.map formV))) H
      rw [forms_inV]
      exact k
    · rw [spoken_no h] at k
      exact k
abbrev sIsPlace : Stmt := top 11
theorem scIsPlace : FnScope ["rows", "thing"] ["rows", "thing"] (defScope sIsPlace) := ⟨rfl, rfl, rfl, by decide +kernel, rfl, by decide +kernel, by decide +kernel⟩
theorem okd_place {f : Addr} {fd : FuncData} (F : Fun K "is_place" "is_place" sIsPlace f fd) (T : Txt mg) (HB : Has P w K mg base "is_between" ["low", "high", "thing"] 2 spBtwD) : FnOk P w K mg base CX0 3 f fd ["rows", "thing"] spPlaceD := by
  refine F.ok scIsPlace (fun vs H Q E h => ?_) (fun cdv A outer s H vs Q E hr h => ?_)
  · obtain ⟨N, p, ys, v, d, rfl, _⟩ := h
    rfl
  · obtain ⟨N, p, ys, v, d, rfl, hp, hd, k⟩ := h
    refine ⟨_, (pss_one (ps_ret (pe_callH HB (hr.mono (by decide)) rfl (pa_cons pe_int (pa_cons (pe_op op_sub (pe_callB call_len rfl T.len PySem.boot_len (pa_cons (pv 0) pa_nil)) pe_int) (pa_cons (pv 1) pa_nil)))))), ?_⟩
    exact ⟨_, rfl, _, ys.length, rfl, .inr ⟨_, sqT hp, rfl⟩, _, _, rfl, rfl, _, rfl, N, 0, _, v, d, rfl, hd, k⟩
abbrev sNamesStrike : Stmt := top 53
theorem scNamesStrike : FnScope ["table", "thing"] ["table", "thing"] (defScope sNamesStrike) := ⟨rfl, rfl, rfl, by decide +kernel, rfl, by decide +kernel, by decide +kernel⟩
theorem okd_names {f C : Addr} {fd : FuncData} (F : Fun K "_names_strike" "_names_strike" sNamesStrike f fd) (T : Txt mg) (TT : TabTxt K mg C) (HIs : Has P w K mg base "is_spoken" ["table", "thing"] 1 (spSpokenD C)) (HPc : Has P w K mg base "is_place" ["rows", "thing"] 3 spPlaceD) : FnOk P w K mg base CX0 4 f fd ["table", "thing"] (spNamesD C) := by
  refine F.ok scNamesStrike (fun vs H Q E h => ?_) (fun cdv A outer s H vs Q E hr h => ?_)
  · obtain ⟨N, t, fam, p, fs, v, d, rfl, _⟩ := h
    rfl
  · obtain ⟨N, t, fam, p, fs, v, d, rfl, ⟨dt, et⟩, hp, hd, k⟩ := h
    refine ⟨_, (pss_cons (ps_if (PW.pt (pw_or (pt_not (pt_val (pe_callB call_isi rfl T.isinstance (by decide +kernel) (pa_cons (pv 1) (pa_cons (pe_bltn rfl T.tuple (by decide +kernel) (v := V.ty "tuple") rfl) pa_nil))))) (pw_or1 (pt_cmpR op_ne (pe_callB call_len rfl T.len PySem.boot_len (pa_cons (pv 1) pa_nil)) pe_int (nomark _))))) (pss_one (ps_ret pe_bl)) pss_nil)
      (pss_cons (ps_if (PW.pt (pw_or (pt_not (pt_val (pe_callH HIs (hr.mono (by decide)) rfl (pa_cons (pv 0) (pa_cons (pe_ix ix_tup (pv 1) pe_int (fun _ _ => rfl)) pa_nil))))) (pw_or1 (pt_not (pt_val (pe_callH HIs (hr.mono (by decide)) rfl (pa_cons (pv 0) (pa_cons (pe_ix ix_tup (pv 1) pe_int (fun _ _ => rfl)) pa_nil)))))))) (pss_one (ps_ret pe_bl)) pss_nil)
      (pss_one (ps_ret (pe_and (pe_callH HPc (hr.mono (by decide)) rfl (pa_cons (pe_fld (pv 0) rfl) (pa_cons (pe_ix ix_tup (pv 1) pe_int (fun _ _ => rfl)) pa_nil))) (pe_one (pe_cmpR op_eq (pe_ix ix_tup (pe_fld (pv 0) rfl) (pe_ix ix_tup (pv 1) pe_int (fun _ _ => rfl)) (fun _ _ => rfl)) (pe_ix ix_tup (pv 1) pe_int (fun _ _ => rfl)) (nomark _)))))))), ?_⟩
    have no : namesD fs d = none → Q (.bl false) H := fun e => by
      rw [e] at k
      exact k
    have other : (∀ z o i, d ≠ .tuple [.str z, .str o, .int i]) → namesD fs d = none := fun h => by
      unfold namesD
      split
      · rename_i z o i
        exact absurd rfl (h z o i)
      · rfl
    refine ⟨_, rfl, _, _, _, _, isaD "tuple" d, rfl, .ty _, dt_ty hd, kit_D d (by simp), _, rfl, ?_⟩
    refine ite2 (fun h => ?_) (fun h => ?_)
    · have h' : isaD "tuple" d ≠ true := by simpa using h
      exact no (other fun z o i e => h' ((isa_tup d).mpr ⟨_, e⟩))
    have h' : isaD "tuple" d = true := by simpa using h
    obtain ⟨ds, rfl⟩ := (isa_tup d).mp h'
    obtain ⟨q, xs, rfl, nq, hq, all⟩ := dt_tup hd
    have len := all.len
    refine ⟨_, rfl, _, _, rfl, .inr ⟨_, sqT hq, rfl⟩, rfl, _, rfl, ?_⟩
    refine ite2 (fun n3 => ?_) (fun n3 => ?_)
    · refine no (other fun z o i e => ?_)
      cases e
      have : xs.length = 3 := len
      rw [this] at n3
      cases n3
    have l3 : ds.length = 3 := by
      have : (xs.length : Int) = 3 := by simpa using n3
      omega
    obtain ⟨d1, d2, d3, rfl⟩ : ∃ a b c, ds = [a, b, c] := by
      match ds, l3 with
      | [a, b, c], _ => exact ⟨a, b, c, rfl⟩
    obtain ⟨v1, v2, v3, rfl, h1, h2, h3⟩ : ∃ v1 v2 v3, xs = [v1, v2, v3] ∧ Dt N H v1 d1 ∧ Dt N H v2 d2 ∧ Dt N H v3 d3 := by
      cases all with
      | cons a r => cases r with
        | cons b r => cases r with
          | cons c r => cases r; exact ⟨_, _, _, rfl, a, b, c⟩
    refine ⟨_, rfl, _, rfl, q, _, _, _, rfl, rfl, sqT hq, at_of (j := 0) rfl rfl, N, t, fam, p, fs, v1, d1, rfl, ⟨dt, et⟩, hp, h1, _, rfl, ?_⟩
    refine ite2 (fun s1 => ?_) (fun s1 => ?_)
    · refine no ?_
      have s1' : spokenB fs d1 = false := by simpa using s1
      unfold namesD
      split
      · rename_i z o i e
        cases e
        rw [if_neg (fun h => by rw [show spokenB fs (.str z) = decide (some z ∈ fs) from rfl, decide_eq_true h.1] at s1'; cases s1')]
      · rfl
    have s1' : spokenB fs d1 = true := by simpa using s1
    refine ⟨_, rfl, _, rfl, q, _, _, _, rfl, rfl, sqT hq, at_of (j := 1) rfl rfl, N, t, fam, p, fs, v2, d2, rfl, ⟨dt, et⟩, hp, h2, _, rfl, ?_⟩
    refine ite2 (fun s2 => ?_) (fun s2 => ?_)
    · refine no ?_
      have s2' : spokenB fs d2 = false := by simpa using s2
      unfold namesD
      split
      · rename_i z o i e
        cases e
        rw [if_neg (fun h => by rw [show spokenB fs (.str o) = decide (some o ∈ fs) from rfl, decide_eq_true h.2.1] at s2'; cases s2')]
      · rfl
    have s2' : spokenB fs d2 = true := by simpa using s2
    obtain ⟨z, rfl, hz⟩ := spokenB_is s1'
    obtain ⟨o, rfl, ho⟩ := spokenB_is s2'
    refine ⟨_, rfl, t, C, dt, _, _, rfl, et, TT.cl, TT.nO, tabF_forms _ _, _, rfl, q, _, _, _, rfl, rfl, sqT hq, at_of (j := 2) rfl rfl, N, p, _, v3, d3, rfl, hp, h3, _, rfl, ?_⟩
    rw [List.length_map]
    refine ite2 (fun b => ?_) (fun b => ?_)
    · obtain ⟨i, rfl, i0, i1⟩ := btw_is b
      obtain rfl := dt_int h3
      obtain rfl := dt_str h2
      obtain ⟨j, rfl⟩ : ∃ j : Nat, i = (j : Int) := ⟨i.toNat, by omega⟩
      have lj : j < fs.length := by omega
      obtain ⟨fo, hf⟩ : ∃ fo, fs[j]? = some fo := ⟨_, List.getElem?_eq_getElem lj⟩
      refine ⟨_, rfl, t, C, dt, _, _, rfl, et, TT.cl, TT.nO, tabF_forms _ _, _, rfl, q, _, _, _, rfl, rfl, sqT hq, at_of (j := 2) rfl rfl, p, _, _, _, rfl, rfl, sqT hp, at_of (j := j) rfl (by rw [List.getElem?_map, hf]; rfl), _, rfl, q, _, _, _, rfl, rfl, sqT hq, at_of (j := 1) rfl rfl, form_scal _ _, ?_⟩
      rw [form_is]
      have e : namesD fs (.tuple [.str z, .str o, .int (j : Int)]) = if some z ∈ fs ∧ some o ∈ fs ∧ 0 ≤ (j : Int) ∧ (j : Int) ≤ (fs.length : Int) - 1 ∧ fs[(j : Int).toNat]? = some (some o) then some (z, o, (j : Int).toNat) else none := rfl
      rw [e, Int.toNat_natCast, hf] at k
      by_cases q' : fo = some o
      · subst q'
        rw [if_pos ⟨hz, ho, i0, i1, rfl⟩] at k
        rw [decide_eq_true rfl]
        exact k
      · rw [if_neg (fun h => q' (Option.some.inj h.2.2.2.2))] at k
        rw [decide_eq_false q']
        exact k
    · have b' : btwD 0 ((fs.length : Int) - 1) d3 = false := Bool.eq_false_iff.mpr b
      refine no ?_
      unfold namesD
      split
      · rename_i z' o' i e
        cases e
        rw [if_neg (fun h => by
          have : btwD 0 ((fs.length : Int) - 1) (.int i) = true := decide_eq_true ⟨h.2.2.1, h.2.2.2.1⟩
          rw [this] at b'
          cases b')]
      · rfl
end
end Xci

namespace Xci
open PySem L2
theorem dk_getR {H : Hp} {d : Addr} {F : List Str} {g : Str → V} {z : Str} (e : Rd H d (.dK (dkOf F g))) (h : z ∈ F) : DGet H d (.str z) (some (g z)) := .inl ⟨_, Sum.inr z, e, rfl, (dk_val h).symm⟩
theorem namesD_is {fs : List (Option Str)} {d : PyData} {t : Stk} (h : namesD fs d = some t) : d = .tuple [.str t.1, .str t.2.1, .int (t.2.2 : Nat)] ∧ some t.1 ∈ fs ∧ fs[t.2.2]? = some (some t.2.1) := by
  unfold namesD at h
  split at h
  · rename_i z o i
    split at h
    · rename_i q
      cases h
      obtain ⟨a, b, c, _, e⟩ := q
      refine ⟨?_, a, e⟩
      show PyData.tuple [.str z, .str o, .int i] = PyData.tuple [.str z, .str o, .int ((i.toNat : Nat) : Int)]
      rw [Int.toNat_of_nonneg c]
    · cases h
  · cases h
theorem leftD_snoc (cells : List (List Int)) (fs : List (Option Str)) (d : PyData) : ∀ (ds : List PyData) (x : Str → Nat), leftD cells fs x (ds ++ [d]) = (leftD cells fs x ds).bind fun y => leftD cells fs y [d]
  | [], x => rfl
  | e :: r, x => by
    show leftD cells fs x (e :: (r ++ [d])) = _
    unfold leftD
    cases namesD fs e with
    | none => rfl
    | some t =>
      dsimp only
      cases cells[t.2.2]? with
      | none => rfl
      | some c =>
        dsimp only
        split
        · exact leftD_snoc cells fs d r _
        · rfl
theorem leftD_more {cells : List (List Int)} {fs : List (Option Str)} {x : Str → Nat} : ∀ (ds es : List PyData), leftD cells fs x ds = none → leftD cells fs x (ds ++ es) = none
  | ds, [], h => by rw [List.append_nil]; exact h
  | ds, e :: r, h => by
    have : ds ++ e :: r = (ds ++ [e]) ++ r := by simp
    rw [this]
    refine leftD_more _ r ?_
    rw [leftD_snoc, h]
    rfl
theorem take_at' {α : Type} {l : List α} {n i : Nat} {x : α} (h : (l.take n)[i]? = some x) : l[i]? = some x := by
  rw [List.getElem?_take] at h
  split at h
  · exact h
  · cases h
section
variable {P : Program} {w : World} {K : PySem.W.Frag} {mg : Str → Option Value} {base : Heap}
theorem ok_struckR {f : Addr} {fd : FuncData} (F : Fun K "_is_struck" "_is_struck" sIsStruck f fd) : FnOk P w K mg base CX0 1 f fd ["left", "form", "other", "lot"] spStruckR := by
  refine F.ok scIsStruck (fun vs H Q E h => ?_) (fun cdv A outer s H vs Q E hr h => ?_)
  · obtain ⟨d, F, x, z, o, c, rfl, _⟩ := h
    rfl
  · obtain ⟨d, F, x, z, o, c, rfl, hd, zF, oF, k⟩ := h
    refine ⟨_, (pss_one (ps_ret (pe_and (pe_notT (pe_op op_and (pe_dget (hu1 hr) (pv 0) (pv 1) (fun _ _ => rfl)) (pe_un un_inv (pv 3)))) (pe_one (pe_cmpR op_ne (pe_op op_and (pe_dget (hu1 hr) (pv 0) (pv 1) (fun _ _ => rfl)) (pe_un un_inv (pe_dget (hu1 hr) (pv 0) (pv 2) (fun _ _ => rfl)))) pe_int (nomark _)))))), ?_⟩
    have gz := dk_getR hd zF
    have go := dk_getR hd oF
    have e : decide (struck x z o c) = (decide (x z &&& maskN c = x z) && decide (x z &&& x o ≠ x z)) := by
      rw [Bool.eq_iff_iff, Bool.and_eq_true, decide_eq_true_iff, decide_eq_true_iff, decide_eq_true_iff]
      exact Iff.rfl
    rw [e] at k
    refine ⟨_, rfl, _, rfl, d, _, rfl, gz, _, rfl, _, rfl, _, _, rfl, rfl, _, rfl, _, rfl, ?_⟩
    rw [bit_in]
    refine ite2 (fun h => ?_) (fun h => ?_)
    · refine ⟨_, rfl, _, rfl, d, _, rfl, gz, _, rfl, _, rfl, d, _, rfl, go, _, rfl, _, _, rfl, rfl, rfl, ?_⟩
      rw [h, Bool.true_and] at k
      rw [bit_out]
      exact k
    · rw [Bool.eq_false_iff.mpr h, Bool.false_and] at k
      exact k
abbrev sLeftBehind : Stmt := top 52
theorem scLeftBehind : FnScope ["table", "done", "lots", "left", "strike", "form", "other", "number"] ["table", "done"] (defScope sLeftBehind) := ⟨rfl, rfl, rfl, by decide +kernel, rfl, by decide +kernel, by decide +kernel⟩
set_option maxHeartbeats 4000000 in
theorem okd_left {f CF C : Addr} {fd : FuncData} (F : Fun K "_left_behind" "_left_behind" sLeftBehind f fd) (T : Txt mg) (TT : TabTxt K mg C) (FT : FamTxt K mg CF) (HCb : Has P w K mg base "cell_bits" ["family"] 2 (spCellBits CF)) (HCo : Has P w K mg base "common_bits" ["lots", "forms"] 1 spCommonO) (HNs : Has P w K mg base "_names_strike" ["table", "thing"] 4 (spNamesD C)) (HIk : Has P w K mg base "_is_struck" ["left", "form", "other", "lot"] 1 spStruckR) : FnOk P w K mg base CX0 5 f fd ["table", "done"] (spLeftD CF C) := by
  refine F.ok scLeftBehind (fun vs H Q E h => ?_) (fun cdv A outer s H vs Q E hr h => ?_)
  · obtain ⟨N, t, l, cells, fs, ys, ds, rfl, _⟩ := h
    rfl
  · obtain ⟨N, t, l, cells, fs, ys, ds, rfl, tab, hl, hds, k⟩ := h
    obtain ⟨fam, pf, many, pc, cy, ⟨dt, et⟩, hp, hfam, hpc, cm⟩ := tab.ex
    have ok6 := tab.ok
    have few := tab.few
    have len := tab.len
    refine ⟨_, (pss_cons (ps_set (i := 2) scLeftBehind.nd rfl (by first | exact Or.inl rfl | exact Or.inr rfl) (pe_callH HCb (hr.mono (by decide)) rfl (pa_cons (pe_fld (pv 0) rfl) pa_nil)))
      (pss_cons (ps_set (i := 3) scLeftBehind.nd rfl (by first | exact Or.inl rfl | exact Or.inr rfl) (pe_callH HCo (hr.mono (by decide)) rfl (pa_cons (pv 2) (pa_cons (pe_fld (pv 0) rfl) pa_nil))))
      (pss_cons (ps_for PassesOwn.never rfl (pi_list (pv 1)) (pg_name (i := 4) scLeftBehind.nd rfl (by first | exact Or.inl rfl | exact Or.inr rfl)) (pss_cons (ps_if (pt_not (pt_val (pe_callH HNs (hr.mono (by decide)) rfl (pa_cons (pv 0) (pa_cons (pv 4) pa_nil))))) (pss_one (ps_ret pe_non)) pss_nil)
      (pss_cons (ps_asg (pv 4) (pg_tup rfl (pgs_cons (pg_name (i := 5) scLeftBehind.nd rfl (by first | exact Or.inl rfl | exact Or.inr rfl)) (pgs_cons (pg_name (i := 6) scLeftBehind.nd rfl (by first | exact Or.inl rfl | exact Or.inr rfl)) (pgs_cons (pg_name (i := 7) scLeftBehind.nd rfl (by first | exact Or.inl rfl | exact Or.inr rfl)) pgs_nil)))))
      (pss_cons (ps_if (pt_not (pt_val (pe_callH HIk (hr.mono (by decide)) rfl (pa_cons (pv 3) (pa_cons (pv 5) (pa_cons (pv 6) (pa_cons (pe_ix ix_list (pv 2) (pv 7) (fun _ _ => rfl)) pa_nil))))))) (pss_one (ps_ret pe_non)) pss_nil)
      (pss_one (ps_dput (hu1 hr) (pv 3) (pv 5) (pe_op op_and (pe_dget (hu1 hr) (pv 3) (pv 5) (fun _ _ => rfl)) (pe_dget (hu1 hr) (pv 3) (pv 6) (fun _ _ => rfl))) rfl))))))
      (pss_one (ps_ret (pv 3)))))), ?_⟩
    refine ⟨_, rfl, t, C, dt, _, _, rfl, et, TT.cl, TT.nF, tabF_family _ _, fam, many, pc, cy, cells, rfl, hfam, hpc, cm, ok6, by omega, fun q H1 hq s1 => ?_⟩
    refine ⟨_, rfl, _, rfl, t, C, dt, _, _, rfl, s1 _ _ et, TT.cl, TT.nO, tabF_forms _ _, q, pf, cells, fs, rfl, ⟨hq, s1 _ _ hp, len, ok6, by omega⟩, fun d H2 hd fd2 s2 => ?_⟩
    obtain ⟨Nm, Sh⟩ := com_names (cells := cells) (fs := fs) ok6
    have fd : H d = none := s1.free fd2
    have s02 := s1.trans s2
    generalize hF : (comO (rowsOf cells fs)).1 = F0 at *
    generalize hx : (comO (rowsOf cells fs)).2 = x0 at *
    have Fl : F0.length ≤ 63 := Nat.le_trans Nm.len (by omega)
    have memF : ∀ z, some z ∈ fs → z ∈ F0 := fun z hz => (Nm.mem z).mpr ((named_in len.symm).mp hz)
    have ly := hds.len
    refine ⟨_, rfl, l, rfl, ⟨_, SqL.of (s02 _ _ hl)⟩, ?_⟩
    refine for_list (K := K) (a := l) (xs := ys) (fun i σ H3 => Same H H3 ∧ H3 q = some (.lst (bitsV cells)) ∧ (∃ x, leftD cells fs x0 (ds.take i) = some x ∧ H3 d = some (.dK (dkOf F0 (maskV x)))) ∧ ∃ o4 o5 o6 o7 : Option V, σ = [some (.ref t), some (.ref l), some (.ref q), some (.ref d), o4, o5, o6, o7])
      ⟨s02, s2 _ _ hq, ⟨x0, rfl, hd⟩, _, _, _, _, rfl⟩ (fun i σ H3 _ ⟨s, _⟩ => SqL.of (s _ _ hl)) ?_ ?_
    · rintro i v σ H3 hi ⟨s3, hq3, ⟨x, hx3, hd3⟩, o4, o5, o6, o7, rfl⟩
      obtain ⟨e, he, hv⟩ := hds.get hi
      have hv3 := hv.fr (FrO.same s3)
      have tk : ds.take (i + 1) = ds.take i ++ [e] := by rw [List.take_add_one, he]; rfl
      have stop : leftD cells fs x [e] = none → ∀ H', Same H H' → Q .non H' := fun h H' s => by
        refine k .non H' (.inl ⟨?_, rfl⟩) s
        rw [← List.take_append_drop (i + 1) ds]
        refine leftD_more _ _ ?_
        rw [tk, leftD_snoc, hx3]
        exact h
      refine ⟨_, rfl, _, rfl, N, t, fam, pf, fs, v, e, rfl, ⟨dt, s3 _ _ et⟩, s3 _ _ hp, hv3, _, rfl, ?_⟩
      cases hn : namesD fs e with
      | none =>
        refine iteT (stop ?_ H3 s3)
        unfold leftD
        rw [hn]
      | some tt =>
        refine iteF ?_
        obtain ⟨rfl, z1, ho⟩ := namesD_is hn
        obtain ⟨u, xs, rfl, nu, hu, all⟩ := dt_tup hv3
        obtain rfl : xs = [.str tt.1, .str tt.2.1, .int (tt.2.2 : Nat)] := by
          cases all with
          | cons a r => cases r with
            | cons b r => cases r with
              | cons c r => cases r; cases a; cases b; cases c; rfl
        have lj := (List.getElem?_eq_some_iff.mp ho).1
        obtain ⟨c, hc⟩ : ∃ c, cells[tt.2.2]? = some c := ⟨_, List.getElem?_eq_getElem (by omega)⟩
        have zF := memF _ z1
        have oF := memF _ (List.mem_of_getElem? ho)
        have atq : (bitsV cells)[tt.2.2]? = some (.int (maskN c : Nat)) := by
          unfold bitsV
          rw [List.map_map, List.getElem?_map, hc]; rfl
        refine ⟨_, rfl, u, _, rfl, sqT hu, rfl, _, _, rfl, _, _, rfl, _, _, rfl, rfl, ?_⟩
        refine ⟨_, rfl, _, rfl, _, rfl, _, rfl, _, rfl, q, _, _, _, rfl, rfl, SqL.of hq3, at_of (j := tt.2.2) rfl atq, d, F0, x, tt.1, tt.2.1, c, rfl, .inl hd3, zF, oF, _, rfl, ?_⟩
        refine ite2 (fun hs => ?_) (fun hs => ?_)
        · have hs' : ¬ struck x tt.1 tt.2.1 c := by simpa using hs
          refine stop ?_ H3 s3
          unfold leftD
          rw [hn]
          dsimp only
          rw [hc]
          dsimp only
          rw [if_neg hs']
        · have hs' : struck x tt.1 tt.2.1 c := by simpa using hs
          refine ⟨_, rfl, _, rfl, d, _, rfl, dk_get hd3 zF, _, rfl, _, rfl, d, _, rfl, dk_get hd3 oF, _, _, rfl, rfl, _, rfl, _, rfl, d, _, rfl, DPut.k (k := Sum.inr tt.1) hd3 (small1000 (by rw [dk_len]; omega)), ?_⟩
          have put : putK (dkOf F0 (maskV x)) (Sum.inr tt.1) (V.int (Builtin.bitAnd (x tt.1 : Int) (x tt.2.1 : Int))) = dkOf F0 (maskV (stepX x tt)) := by rw [PySem.W.os_band, dk_put zF, setG_mask]; rfl
          have ndq : q ≠ d := ne_of hq3 hd3 (by intro z; cases z)
          refine ⟨fun b o hb => by rw [upd_ne (ne_of_none hb fd)]; exact s3 b o hb, by rw [upd_ne ndq]; exact hq3, ⟨stepX x tt, ?_, upd_same.trans (congrArg (fun l => some (HO.dK l)) put)⟩, _, _, _, _, rfl⟩
          rw [tk, leftD_snoc, hx3]
          show leftD cells fs x [_] = _
          unfold leftD
          rw [hn]
          dsimp only
          rw [hc]
          dsimp only
          rw [if_pos hs']
          rfl
    · rintro σ H3 ⟨s3, hq3, ⟨x, hx3, hd3⟩, o4, o5, o6, o7, rfl⟩
      rw [ly, List.take_length] at hx3
      exact ⟨_, rfl, k (.ref d) H3 (.inr ⟨x, d, hx3, rfl, hd3⟩) s3⟩
abbrev sCanStrike : Stmt := top 54
theorem scCanStrike : FnScope ["table", "left", "lot", "other", "form"] ["table", "left"] (defScope sCanStrike) := ⟨rfl, rfl, rfl, by decide +kernel, rfl, by decide +kernel, by decide +kernel⟩
set_option maxHeartbeats 4000000 in
theorem okd_can {f CF C : Addr} {fd : FuncData} (F : Fun K "_can_strike" "_can_strike" sCanStrike f fd) (T : Txt mg) (TT : TabTxt K mg C) (FT : FamTxt K mg CF) (HCb : Has P w K mg base "cell_bits" ["family"] 2 (spCellBits CF)) (HIk : Has P w K mg base "_is_struck" ["left", "form", "other", "lot"] 1 spStruckR) : FnOk P w K mg base CX0 3 f fd ["table", "left"] (spCanStrike CF C) := by
  refine F.ok scCanStrike (fun vs H Q E h => ?_) (fun cdv A outer s H vs Q E hr h => ?_)
  · obtain ⟨t, d, cells, fs, F0, x, rfl, _⟩ := h
    rfl
  · obtain ⟨t, d, cells, fs, F0, x, rfl, tab, hd, Fl, memF, k⟩ := h
    obtain ⟨fam, pf, many, pc, cy, ⟨dt, et⟩, hp, hfam, hpc, cm⟩ := tab.ex
    have ok6 := tab.ok
    have few := tab.few
    have len := tab.len
    refine ⟨_, (pss_cons (ps_for PassesOwn.never rfl (pi_zipN rfl T.zip (pa_cons (pe_callH HCb (hr.mono (by decide)) rfl (pa_cons (pe_fld (pv 0) rfl) pa_nil)) (pa_cons (pe_fld (pv 0) rfl) pa_nil))) (pg_tup rfl (pgs_cons (pg_name (i := 2) scCanStrike.nd rfl (by first | exact Or.inl rfl | exact Or.inr rfl)) (pgs_cons (pg_name (i := 3) scCanStrike.nd rfl (by first | exact Or.inl rfl | exact Or.inr rfl)) pgs_nil))) (pss_one (ps_if (PW.pt (pw_and (pt_cmpR op_notN (pv 3) pe_non (nomark _)) (pw_and1 (pt_val (pe_callB (cr_any rfl) rfl T.any (by decide +kernel) (pa_cons (pe_lock (pe_lc (own := [("form", 4)]) rfl scCanStrike.nd (pi_keys (pv 1)) (blkOk_by (N := ["table", "left", "lot", "other", "form"]) (sc := defScope sCanStrike) (by decide +kernel)) (fun _ _ _ _ _ => (pg_name (i := 4) scCanStrike.nd rfl (by first | exact Or.inl rfl | exact Or.inr rfl))) (fun _ _ _ _ _ => pts_nil) (fun _ _ _ _ _ => (pe_callH HIk (hr.mono (by decide)) rfl (pa_cons (pv 1) (pa_cons (pv 4) (pa_cons (pv 3) (pa_cons (pv 2) pa_nil)))))))) pa_nil)))))) (pss_one (ps_ret pe_bl)) pss_nil)))
      (pss_one (ps_ret pe_bl))), ?_⟩
    refine ⟨_, rfl, t, C, dt, _, _, rfl, et, TT.cl, TT.nF, tabF_family _ _, fam, many, pc, cy, cells, rfl, hfam, hpc, cm, ok6, by omega, fun q H1 hq s1 => ?_⟩
    have lz : (bitsV cells).length = (fs.map formV).length := by rw [List.length_map, bitsV_len]; exact len
    refine ⟨_, rfl, t, C, dt, _, _, rfl, s1 _ _ et, TT.cl, TT.nO, tabF_forms _ _, q, pf, _, _, rfl, ⟨SqL.of hq, sqT (s1 _ _ hp)⟩, ?_⟩
    refine for_it (walk_zipN (K := K) (a := q) (b := pf) lz) (fun i σ H2 => Same H1 H2 ∧ (canB (cells.take i) (fs.take i) F0 x = false) ∧ ∃ o2 o3 o4 : Option V, σ = [some (.ref t), some (.ref d), o2, o3, o4])
      ⟨Same.refl _, rfl, _, _, _, rfl⟩ (fun i σ H2 _ ⟨e, _⟩ => ⟨SqL.of (e _ _ hq), sqT (e _ _ (s1 _ _ hp))⟩) ?_ ?_
    · rintro i y σ H2 H3 hi ⟨s2, no, o2, o3, o4, rfl⟩ ⟨T0, x1, x2, rfl, hT, rfl, hx1, hx2⟩
      obtain ⟨c, ec, rfl⟩ := bits_at hx1
      rw [List.getElem?_map] at hx2
      obtain ⟨fo, hfo, rfl⟩ := Option.map_eq_some_iff.mp hx2
      have s3 : Same H2 (upd H2 T0 (.tup [.int (maskN c : Nat), formV fo])) := Same.new hT
      have eT : (upd H2 T0 (.tup [.int (maskN c : Nat), formV fo])) T0 = some (.tup [.int (maskN c : Nat), formV fo]) := upd_same
      generalize upd H2 T0 (.tup [.int (maskN c : Nat), formV fo]) = H3 at *
      have rows := rows_take ec hfo
      have s13 := s2.trans s3
      refine ⟨T0, _, rfl, sqT eT, rfl, _, _, rfl, _, _, rfl, rfl, ?_⟩
      refine ⟨_, rfl, rfl, _, rfl, ?_⟩
      cases fo with
      | none =>
        refine iteF ⟨s13, ?_, _, _, _, rfl⟩
        unfold canB at no ⊢
        rw [rows, List.append_nil]
        exact no
      | some o =>
        refine iteT ?_
        have oF := memF o (List.mem_of_getElem? hfo)
        have hd3 := s13 _ _ (s1 _ _ hd)
        refine ⟨d, _, hd3, trivial, fun od => ?_⟩
        refine ⟨_, rfl, d, od, rfl, .inl ⟨_, upd_same, fun D hD => ?_⟩⟩
        have nD : D ≠ d := fun z => by rw [z, upd_same] at hD; cases hD
        have D3 : H3 D = none := by rw [upd_ne nD] at hD; exact hD
        refine lc_it (walk_keys (d := d) (o := od) (kvs := dkOf F0 (maskV x))) (fun j H4 => H4 d = some (.frz od (.dK (dkOf F0 (maskV x)))) ∧ (∀ b o', H3 b = some o' → b ≠ d → H4 b = some o') ∧ H4 D = some (.lst (((F0.take j).map fun z => decide (struck x z o c)).map V.bl))) ⟨by rw [upd_ne nD.symm]; exact upd_same, fun b o' hb h1 => by rw [upd_ne (ne_of_none hb D3), upd_ne h1]; exact hb, upd_same⟩ (fun j H4 _ ⟨h, _⟩ => h) ?_ ?_
        · rintro j y _ H4 hj ⟨ho, kp, eD⟩ ⟨rfl, key, v', hk, rfl⟩
          unfold dkOf at hk
          rw [List.getElem?_map] at hk
          obtain ⟨z, hz, ez⟩ := Option.map_eq_some_iff.mp hk
          cases ez
          have zF := List.mem_of_getElem? hz
          have lt := List.length_take_le' j F0
          refine ⟨rfl, _, rfl, _, rfl, _, rfl, _, rfl, d, F0, x, z, o, c, rfl, .inr ⟨od, ho⟩, zF, oF, _, eD, by rw [List.length_map, List.length_map]; exact small1000 (by omega), by rw [upd_ne nD.symm]; exact ho, fun b o' hb h1 => by rw [upd_ne (ne_of_none hb D3)]; exact kp b o' hb h1, ?_⟩
          rw [upd_same, List.take_add_one, hz, List.map_append, List.map_append]
          rfl
        rintro H4 ⟨ho, kp, eD⟩
        rw [dk_len, List.take_length] at eD
        refine ⟨ho, ?_⟩
        have s34 : Same H3 (upd H4 d (.dK (dkOf F0 (maskV x)))) := fun b o' hb => by
          by_cases q' : b = d
          · rw [q', upd_same]; rw [q', hd3] at hb; exact hb
          · rw [upd_ne q']; exact kp b o' hb q'
        have eD4 : (upd H4 d (.dK (dkOf F0 (maskV x)))) D = some (.lst ((F0.map fun z => decide (struck x z o c)).map V.bl)) := by rw [upd_ne nD]; exact eD
        generalize upd H4 d (.dK (dkOf F0 (maskV x))) = H5 at *
        refine ⟨D, _, rfl, SqL.of eD4, _, rfl, ?_⟩
        have all : canB (cells.take (i + 1)) (fs.take (i + 1)) F0 x = (F0.map fun z => decide (struck x z o c)).any id := by
          unfold canB at no ⊢
          rw [rows, List.any_append, no, Bool.false_or, List.any_map]
          simp
        refine ite2 (fun yes => ?_) (fun not => ?_)
        · have all' : canB cells fs F0 x = true := by
            rw [yes] at all
            unfold canB at all ⊢
            rw [List.any_eq_true] at all ⊢
            obtain ⟨r, hr', hq'⟩ := all
            obtain ⟨jj, h1, h2⟩ := rows_mem.mp hr'
            exact ⟨r, rows_mem.mpr ⟨jj, take_at' h1, take_at' h2⟩, hq'⟩
          rw [all'] at k
          exact k H5 (s1.trans (s13.trans s34))
        · refine ⟨s13.trans s34, ?_, _, _, _, rfl⟩
          rw [all]
          exact Bool.eq_false_iff.mpr not
    · rintro σ H2 ⟨s2, no, o2, o3, o4, rfl⟩
      rw [bitsV_len, List.take_length, List.take_of_length_le (by omega)] at no
      rw [no] at k
      exact k H2 (s1.trans s2)
end
end Xci

namespace Xci
open PySem L2
theorem barB_no {cells : List (List Int)} {fs : List (Option Str)} {d : PyData} (h : ∀ ds z o, d ≠ .tuple [.list ds, .str z, .str o]) : barB cells fs d = false := by
  unfold barB
  split
  · rename_i ds z o
    exact absurd rfl (h ds z o)
  · rfl
section
variable {P : Program} {w : World} {K : PySem.W.Frag} {mg : Str → Option Value} {base : Heap}
abbrev sIsShrunkBar : Stmt := top 51
theorem scIsShrunkBar : FnScope ["table", "thing", "done", "one", "other", "left"] ["table", "thing"] (defScope sIsShrunkBar) := ⟨rfl, rfl, rfl, by decide +kernel, rfl, by decide +kernel, by decide +kernel⟩
set_option maxHeartbeats 4000000 in
theorem okd_bar {f CF C : Addr} {fd : FuncData} (F : Fun K "is_shrunk_bar" "is_shrunk_bar" sIsShrunkBar f fd) (T : Txt mg) (HIs : Has P w K mg base "is_spoken" ["table", "thing"] 1 (spSpokenD C)) (HLb : Has P w K mg base "_left_behind" ["table", "done"] 5 (spLeftD CF C)) (HCs : Has P w K mg base "_can_strike" ["table", "left"] 3 (spCanStrike CF C)) : FnOk P w K mg base CX0 6 f fd ["table", "thing"] (spBarD CF C) := by
  refine F.ok scIsShrunkBar (fun vs H Q E h => ?_) (fun cdv A outer s H vs Q E hr h => ?_)
  · obtain ⟨N, t, cells, fs, v, d, rfl, _⟩ := h
    rfl
  · obtain ⟨N, t, cells, fs, v, d, rfl, tab, hd, k⟩ := h
    obtain ⟨fam, pf, many, pc, cy, hta, hp, hfam, hpc, cm⟩ := tab.ex
    have ok6 := tab.ok
    have len := tab.len
    have few := tab.few
    refine ⟨_, (pss_cons (ps_if (PW.pt (pw_or (pt_not (pt_val (pe_callB call_isi rfl T.isinstance (by decide +kernel) (pa_cons (pv 1) (pa_cons (pe_bltn rfl T.tuple (by decide +kernel) (v := V.ty "tuple") rfl) pa_nil))))) (pw_or (pt_cmpR op_ne (pe_callB call_len rfl T.len PySem.boot_len (pa_cons (pv 1) pa_nil)) pe_int (nomark _)) (pw_or1 (pt_not (pt_val (pe_callB call_isi rfl T.isinstance (by decide +kernel) (pa_cons (pe_ix ix_tup (pv 1) pe_int (fun _ _ => rfl)) (pa_cons (pe_bltn rfl T.list (by decide +kernel) (v := V.ty "list") rfl) pa_nil))))))))) (pss_one (ps_ret pe_bl)) pss_nil)
      (pss_cons (ps_asg (pv 1) (pg_tup rfl (pgs_cons (pg_name (i := 2) scIsShrunkBar.nd rfl (by first | exact Or.inl rfl | exact Or.inr rfl)) (pgs_cons (pg_name (i := 3) scIsShrunkBar.nd rfl (by first | exact Or.inl rfl | exact Or.inr rfl)) (pgs_cons (pg_name (i := 4) scIsShrunkBar.nd rfl (by first | exact Or.inl rfl | exact Or.inr rfl)) pgs_nil)))))
      (pss_cons (ps_if (PW.pt (pw_or (pt_not (pt_val (pe_callH HIs (hr.mono (by decide)) rfl (pa_cons (pv 0) (pa_cons (pv 3) pa_nil))))) (pw_or (pt_not (pt_val (pe_callH HIs (hr.mono (by decide)) rfl (pa_cons (pv 0) (pa_cons (pv 4) pa_nil))))) (pw_or1 (pt_cmpR op_ge_str (pv 3) (pv 4) (nomark _)))))) (pss_one (ps_ret pe_bl)) pss_nil)
      (pss_cons (ps_set (i := 5) scIsShrunkBar.nd rfl (by first | exact Or.inl rfl | exact Or.inr rfl) (pe_callH HLb (hr.mono (by decide)) rfl (pa_cons (pv 0) (pa_cons (pv 2) pa_nil))))
      (pss_one (ps_ret (pe_and (pe_cmpR op_notN (pv 5) pe_non (nomark _)) (pe_and (pe_cmpR op_eq (pe_dget (hu1 hr) (pv 5) (pv 3) (fun _ _ => rfl)) (pe_dget (hu1 hr) (pv 5) (pv 4) (fun _ _ => rfl)) (nomark _)) (pe_one (pe_not (pe_callH HCs (hr.mono (by decide)) rfl (pa_cons (pv 0) (pa_cons (pv 5) pa_nil))))))))))))), ?_⟩
    have no : barB cells fs d = false → Q (.bl false) H := fun e => by
      have := k H (Same.refl _)
      rw [e] at this
      exact this
    refine ⟨_, rfl, _, _, _, _, isaD "tuple" d, rfl, .ty _, dt_ty hd, kit_D d (by simp), _, rfl, ?_⟩
    refine ite2 (fun h => ?_) (fun h => ?_)
    · have h' : isaD "tuple" d ≠ true := by simpa using h
      exact no (barB_no fun ds z o e => h' ((isa_tup d).mpr ⟨_, e⟩))
    have h' : isaD "tuple" d = true := by simpa using h
    obtain ⟨ds, rfl⟩ := (isa_tup d).mp h'
    obtain ⟨q, xs, rfl, nq, hq, all⟩ := dt_tup hd
    have lx := all.len
    refine ⟨_, rfl, _, _, rfl, .inr ⟨_, sqT hq, rfl⟩, rfl, _, rfl, ?_⟩
    refine ite2 (fun n3 => ?_) (fun n3 => ?_)
    · refine no (barB_no fun es z o e => ?_)
      cases e
      have : xs.length = 3 := lx
      rw [this] at n3
      cases n3
    have l3 : ds.length = 3 := by
      have : (xs.length : Int) = 3 := by simpa using n3
      omega
    obtain ⟨d1, d2, d3, rfl⟩ : ∃ a b c, ds = [a, b, c] := by
      match ds, l3 with
      | [a, b, c], _ => exact ⟨a, b, c, rfl⟩
    obtain ⟨v1, v2, v3, rfl, h1, h2, h3⟩ : ∃ v1 v2 v3, xs = [v1, v2, v3] ∧ Dt N H v1 d1 ∧ Dt N H v2 d2 ∧ Dt N H v3 d3 := by
      cases all with
      | cons a r => cases r with
        | cons b r => cases r with
          | cons c r => cases r; exact ⟨_, _, _, rfl, a, b, c⟩
    refine ⟨_, rfl, q, _, _, _, rfl, rfl, sqT hq, at_of (j := 0) rfl rfl, _, _, _, _, isaD "list" d1, rfl, .ty _, dt_ty h1, kit_D d1 (by simp), _, rfl, ?_⟩
    refine ite2 (fun h => ?_) (fun h => ?_)
    · have hL : isaD "list" d1 ≠ true := by simpa using h
      refine no (barB_no fun es z o e => ?_)
      cases e
      exact hL ((isa_lstB _).mpr ⟨_, rfl⟩)
    have h' : isaD "list" d1 = true := by simpa using h
    obtain ⟨es, rfl⟩ := (isa_lstB d1).mp h'
    obtain ⟨l, ys, rfl, hl, hes⟩ := dt_lst h1
    refine ⟨_, rfl, q, _, rfl, sqT hq, rfl, _, _, rfl, _, _, rfl, _, _, rfl, rfl, ?_⟩
    refine ⟨_, rfl, _, rfl, N, t, fam, pf, fs, v2, d2, rfl, hta, hp, h2, _, rfl, ?_⟩
    refine ite2 (fun s1 => ?_) (fun s1 => ?_)
    · have s1' : spokenB fs d2 = false := by simpa using s1
      refine no ?_
      unfold barB
      split
      · rename_i es' z o e
        cases e
        rw [show spokenB fs (.str z) = decide (some z ∈ fs) from rfl] at s1'
        rw [s1', Bool.false_and, Bool.false_and, Bool.false_and]
      · rfl
    have s1' : spokenB fs d2 = true := by simpa using s1
    refine ⟨_, rfl, _, rfl, N, t, fam, pf, fs, v3, d3, rfl, hta, hp, h3, _, rfl, ?_⟩
    refine ite2 (fun s2 => ?_) (fun s2 => ?_)
    · have s2' : spokenB fs d3 = false := by simpa using s2
      refine no ?_
      unfold barB
      split
      · rename_i es' z o e
        cases e
        rw [show spokenB fs (.str o) = decide (some o ∈ fs) from rfl] at s2'
        rw [s2', Bool.and_false, Bool.false_and, Bool.false_and]
      · rfl
    have s2' : spokenB fs d3 = true := by simpa using s2
    obtain ⟨z, rfl, hz⟩ := spokenB_is s1'
    obtain ⟨o, rfl, ho⟩ := spokenB_is s2'
    obtain rfl := dt_str h2
    obtain rfl := dt_str h3
    have is : barB cells fs (.tuple [.list es, .str z, .str o]) = (decide (z.cps.toList < o.cps.toList) && (match leftD cells fs (comO (rowsOf cells fs)).2 es with
      | none => false
      | some x => decide (x z = x o) && !canB cells fs (comO (rowsOf cells fs)).1 x)) := by
      show (decide (some z ∈ fs) && decide (some o ∈ fs) && decide (z.cps.toList < o.cps.toList) && _) = _
      rw [decide_eq_true hz, decide_eq_true ho, Bool.true_and, Bool.true_and]
      all_goals rfl
    refine ⟨_, rfl, _, rfl, _, _, rfl, rfl, _, rfl, ?_⟩
    refine ite2 (fun ge => ?_) (fun ge => ?_)
    · refine no ?_
      have : decide (z.cps.toList < o.cps.toList) = false := by simpa using ge
      rw [is, this, Bool.false_and]
    have lt : decide (z.cps.toList < o.cps.toList) = true := by simpa using ge
    rw [lt, Bool.true_and] at is
    rw [is] at k
    refine ⟨_, rfl, _, rfl, N, t, l, cells, fs, ys, es, rfl, tab, hl, hes, fun u H1 alt s1 => ?_⟩
    obtain ⟨Nm, _⟩ := com_names (cells := cells) (fs := fs) ok6
    rcases alt with ⟨e, rfl⟩ | ⟨x, d, e, rfl, hd1⟩
    · rw [e] at k
      exact ⟨_, rfl, rfl, _, rfl, iteF (k H1 s1)⟩
    · rw [e] at k
      have zF : z ∈ (comO (rowsOf cells fs)).1 := (Nm.mem z).mpr ((named_in len.symm).mp hz)
      have oF : o ∈ (comO (rowsOf cells fs)).1 := (Nm.mem o).mpr ((named_in len.symm).mp ho)
      have eqn : decide (V.int (x z : Nat) = V.int (x o : Nat)) = decide (x z = x o) := by
        by_cases q' : x z = x o
        · simp [q']
        · rw [decide_eq_false q', decide_eq_false (fun e => q' (by have := V.int.inj e; omega))]
      refine ⟨_, rfl, rfl, _, rfl, ?_⟩
      refine iteT ⟨_, rfl, _, rfl, d, _, rfl, dk_get hd1 zF, _, rfl, _, rfl, d, _, rfl, dk_get hd1 oF, rfl, _, rfl, ?_⟩
      rw [eqn]
      refine ite2 (fun same => ?_) (fun diff => ?_)
      · refine ⟨_, rfl, _, rfl, t, d, cells, fs, _, x, rfl, tab.same s1, hd1, Nat.le_trans Nm.len few, fun y hy => (Nm.mem y).mpr ((named_in len.symm).mp hy), fun H2 s2 => ⟨_, rfl, ?_⟩⟩
        have := k H2 (s1.trans s2)
        dsimp only at this
        rw [same, Bool.true_and] at this
        exact this
      · have := k H1 s1
        dsimp only at this
        rw [Bool.eq_false_iff.mpr diff, Bool.false_and] at this
        exact this
end
end Xci

namespace Xci
open PySem L2
section
variable {P : Program} {w : World} {K : PySem.W.Frag} {mg : Str → Option Value} {base : Heap}
abbrev sLawStruck : Stmt := top 78
theorem scLawStruck : FnScope ["held", "strike", "found", "mark"] ["held", "strike"] (defScope sLawStruck) := ⟨rfl, rfl, rfl, by decide +kernel, rfl, by decide +kernel, by decide +kernel⟩
set_option maxHeartbeats 2000000 in
theorem ok_struckL {f : Addr} {fd : FuncData} (F : Fun K "_law_struck" "_law_struck" sLawStruck f fd) (T : Txt mg) : FnOk P w K mg base CX0 1 f fd ["held", "strike"] spStruckL := by
  refine F.ok scLawStruck (fun vs H Q E h => ?_) (fun cdv A outer s H vs Q E hr h => ?_)
  · obtain ⟨d, v, F, ms, g, t, rfl, _⟩ := h
    rfl
  · obtain ⟨d, v, F, ms, g, ⟨z, o, i⟩, rfl, hd, Fl, ⟨tp, rfl, htp⟩, zF, oF, mok, k⟩ := h
    have zF : z ∈ F := zF
    have oF : o ∈ F := oF
    have htp : H tp = some (.tup [.str z, .str o, .int (i : Nat)]) := htp
    refine ⟨_, (pss_cons (ps_set (i := 2) scLawStruck.nd rfl (by first | exact Or.inl rfl | exact Or.inr rfl) (pe_bm0 PySem.F.plainAttrs_dict PySem.F.slot_dict_copy PySem.F.type_dict_copy mtd_copyK (pv 0)))
      (pss_cons (ps_dput (hu1 hr) (pv 2) (pe_ix ix_tup (pv 1) pe_int (fun _ _ => rfl)) (pe_callTy call_tuple_of rfl T.tuple (by decide +kernel) (pa_cons (pe_lc (own := [("mark", 3)]) rfl scLawStruck.nd (pi_tup (pe_dget (hu1 hr) (pv 0) (pe_ix ix_tup (pv 1) pe_int (fun _ _ => rfl)) (fun _ _ => rfl))) (blkOk_by (N := ["held", "strike", "found", "mark"]) (sc := defScope sLawStruck) (by decide +kernel)) (fun _ _ _ _ _ => (pg_name (i := 3) scLawStruck.nd rfl (by first | exact Or.inl rfl | exact Or.inr rfl))) (fun _ _ _ _ _ => pts_one (pt_cmpR (show OpR _ _ (rIn K false) from op_in_seq) (pv 3) (pe_dget (hu1 hr) (pv 0) (pe_ix (show IxR _ (rIxT K) from ix_tup) (pv 1) pe_int (fun _ _ => rfl)) (fun _ _ => rfl)) (by with_unfolding_all rfl))) (fun _ _ _ _ _ => (pv 3))) pa_nil)) rfl)
      (pss_one (ps_ret (pv 2))))), ?_⟩
    refine ⟨_, rfl, .inr (.inr (.inl ⟨rfl, .inl ⟨_, hd.at_⟩⟩)), d, _, rfl, rfl, hd.at_, fun e he => ?_⟩
    have s1 : Same H (upd H e (.dK (dkOf F (refV g)))) := Same.new he
    have e1 : (upd H e (.dK (dkOf F (refV g)))) e = some (.dK (dkOf F (refV g))) := upd_same
    generalize upd H e (.dK (dkOf F (refV g))) = H1 at *
    have hd1 := hd.same s1
    have htp1 := s1 _ _ htp
    have zok := mok z zF
    have oz := hd1.each z zF
    have oo := hd1.each o oF
    refine ⟨_, rfl, _, rfl, tp, _, _, _, rfl, rfl, sqT htp1, at_of (j := 0) rfl rfl, d, _, rfl, dgetD hd1 zF, g z, rfl, ⟨_, sqT oz⟩, fun D hD => ?_⟩
    refine lc_tup (K := K) (a := g z) (xs := (ms z).map V.int) (fun j H2 => Same H1 H2 ∧ H2 D = some (.lst ((((ms z).take j).filter fun m => decide (m ∈ ms o)).map V.int))) ⟨Same.new hD, upd_same⟩ (fun j H2 _ ⟨s, _⟩ => sqT (s _ _ oz)) ?_ ?_
    · rintro j x H2 hj ⟨s2, e2⟩
      obtain ⟨m, hm, rfl⟩ := int_of hj
      have hd2 := hd1.same s2
      refine ⟨rfl, _, rfl, _, rfl, _, rfl, tp, _, _, _, rfl, rfl, sqT (s2 _ _ htp1), at_of (j := 1) rfl rfl, d, _, rfl, dgetD hd2 oF, g o, _, rfl, .inr (sqT (hd2.each o oF)), rfl, flat_ints (ms o), _, rfl, ?_⟩
      have step : ((ms z).take (j + 1)).filter (fun m => decide (m ∈ ms o)) = ((ms z).take j).filter (fun m => decide (m ∈ ms o)) ++ (if m ∈ ms o then [m] else []) := by
        rw [List.take_add_one, hm, List.filter_append]
        refine congrArg _ ?_
        show ([m] : List Int).filter _ = _
        rw [List.filter_cons, List.filter_nil]
        by_cases q : m ∈ ms o <;> simp [q]
      rw [inV_int]
      have sm : ((((ms z).take j).filter fun m => decide (m ∈ ms o)).map V.int).length ≤ 1000 := by
        rw [List.length_map]
        exact Nat.le_trans (List.length_filter_le _ _) (Nat.le_trans (List.length_take_le' _ _) zok.few)
      refine ite2 (fun yes => ?_) (fun no => ?_)
      · have yes' : m ∈ ms o := by simpa using yes
        refine ⟨_, rfl, _, e2, small1000 sm, fun b u hb => by rw [upd_ne (ne_of_none hb hD)]; exact s2 b u hb, ?_⟩
        rw [upd_same, step, if_pos yes', List.map_append]
        rfl
      · have no' : m ∉ ms o := by simpa using no
        refine ⟨s2, ?_⟩
        rw [e2, step, if_neg no', List.append_nil]
    · rintro H2 ⟨s2, e2⟩
      rw [List.length_map, List.take_length] at e2
      refine ⟨D, _, rfl, .inl ⟨SqL.of e2, fun p hp => ?_⟩⟩
      have s3 : Same H2 (upd H2 p (.tup (((ms z).filter fun m => decide (m ∈ ms o)).map V.int))) := Same.new hp
      have e3 : (upd H2 p (.tup (((ms z).filter fun m => decide (m ∈ ms o)).map V.int))) p = some (.tup (((ms z).filter fun m => decide (m ∈ ms o)).map V.int)) := upd_same
      generalize upd H2 p (.tup (((ms z).filter fun m => decide (m ∈ ms o)).map V.int)) = H3 at *
      have s13 := s2.trans s3
      have e13 := s13 _ _ e1
      have npe : p ≠ e := ne_of e3 e13 (by intro q; cases q)
      refine ⟨_, rfl, _, rfl, tp, _, _, _, rfl, rfl, sqT (s13 _ _ htp1), at_of (j := 0) rfl rfl, e, _, rfl, DPut.k (k := Sum.inr z) e13 (small1000 (by rw [dk_len]; omega)), ?_⟩
      have put : putK (dkOf F (refV g)) (Sum.inr z) (V.ref p) = dkOf F (refV (setAS g z p)) := by rw [dk_put zF, setGS_ref]
      refine ⟨_, rfl, k e (setAS g z p) _ ⟨upd_same.trans (congrArg (fun l => some (HO.dK l)) put), fun y hy => ?_⟩ he fun b u hb => by rw [upd_ne (ne_of_none hb he)]; exact s13 _ _ (s1 b u hb)⟩
      unfold setAS setL
      by_cases q : y = z
      · rw [if_pos q, if_pos q, upd_ne npe]
        exact e3
      · have := s13 _ _ (hd1.each y hy)
        rw [if_neg q, if_neg q, upd_ne (ne_of this e13 (by intro q; cases q))]
        exact this
end
end Xci

namespace Xci
open PySem L2
theorem eqv_mkB (a b : List Int) : PyData.eqv (mkD a) (mkD b) = decide (a = b) := by
  have := any_mk b [a]
  simp only [List.map_cons, List.map_nil, List.any_cons, List.any_nil, Bool.or_false] at this
  rw [this]
  by_cases h : a = b
  · subst h; simp
  · have : ¬ b ∈ [a] := fun q => h (List.mem_singleton.mp q).symm
    rw [decide_eq_false h, decide_eq_false this]
theorem sh_mkB (ms : List Int) : SeqAt.shaped (mkD ms) = true := by
  have h1 := lay_mk ms
  have h2 := deep_mk ms
  simp [SeqAt.shaped, h1, h2]
theorem canB_is {cells : List (List Int)} {fs : List (Option Str)} {F G : List Str} {ms : Str → List Int} {x : Str → Nat} (ok : ∀ c ∈ cells, MarksOk 6 c) (S : Says G ms x) (mem : ∀ z, z ∈ F ↔ z ∈ G) (memG : ∀ z, some z ∈ fs → z ∈ G) : canB cells fs F x = true ↔ ∃ t, EndsAt cells fs G ms t := by
  unfold canB
  rw [List.any_eq_true]
  constructor
  · rintro ⟨r, hr, h⟩
    rw [List.any_eq_true] at h
    obtain ⟨z, hz, h⟩ := h
    obtain ⟨i, h1, h2⟩ := rows_mem.mp hr
    exact ⟨(z, r.2, i), (says_ends S ok ((mem z).mp hz) (memG _ (List.mem_of_getElem? h2)) h1 h2).mp (of_decide_eq_true h)⟩
  · rintro ⟨t, e⟩
    obtain ⟨c, hc, _⟩ := id e.cell
    refine ⟨(c, t.2.1), rows_mem.mpr ⟨t.2.2, hc, e.form⟩, ?_⟩
    rw [List.any_eq_true]
    exact ⟨t.1, (mem _).mpr e.inF, decide_eq_true ((says_ends S ok (z := t.1) (o := t.2.1) e.inF (memG _ (List.mem_of_getElem? e.form)) hc e.form).mpr e)⟩
theorem leftD_one {cells : List (List Int)} {fs : List (Option Str)} {x : Str → Nat} {e : PyData} {t : Stk} {c : List Int} (hn : namesD fs e = some t) (hc : cells[t.2.2]? = some c) : leftD cells fs x [e] = if struck x t.1 t.2.1 c then some (stepX x t) else none := by
  unfold leftD
  rw [hn]
  dsimp only
  rw [hc]
  rfl
theorem namesD_other {fs : List (Option Str)} {d : PyData} (h : ∀ z o i, d ≠ .tuple [.str z, .str o, .int i]) : namesD fs d = none := by
  unfold namesD
  split
  · rename_i z o i
    exact absurd rfl (h z o i)
  · rfl
theorem leftD_no {cells : List (List Int)} {fs : List (Option Str)} {x : Str → Nat} {e : PyData} (hn : namesD fs e = none) : leftD cells fs x [e] = none := by
  unfold leftD
  rw [hn]
section
variable {P : Program} {w : World} {K : PySem.W.Frag} {mg : Str → Option Value} {base : Heap}
abbrev sLawIsBar : Stmt := top 79
theorem scLawIsBar : FnScope ["plot", "thing", "held", "strike"] ["plot", "thing"] (defScope sLawIsBar) := ⟨rfl, rfl, rfl, by decide +kernel, rfl, by decide +kernel, by decide +kernel⟩
set_option maxHeartbeats 8000000 in
theorem ok_lawIsBar {f : Addr} {fd : FuncData} (F : Fun K "_law_is_bar" "_law_is_bar" sLawIsBar f fd) (T : Txt mg) (HCm : Has P w K mg base "_law_commons" ["plot"] 2 spPlotCommons) (HEn : Has P w K mg base "_law_ends" ["plot", "held"] 2 spEnds) (HSu : Has P w K mg base "_law_struck" ["held", "strike"] 1 spStruckL) : FnOk P w K mg base CX0 3 f fd ["plot", "thing"] spLawBar := by
  refine F.ok scLawIsBar (fun vs H Q E h => ?_) (fun cdv A outer s H vs Q E hr h => ?_)
  · obtain ⟨N, v, many, pc, pf, cy, cells, fs, u, d, rfl, _⟩ := h
    rfl
  · obtain ⟨N, v, many, pc, pf, cy, cells, fs, u, d, rfl, pl, hd, shape, k⟩ := h
    obtain ⟨tp, rfl, htp⟩ := id pl.tup
    have lfs := pl.forms.len
    have few := pl.fok.len
    have ok6 := pl.ok6
    have wd := pl.forms.word
    refine ⟨_, (pss_cons (ps_if (PW.pt (pw_or (pt_not (pt_val (pe_callB call_isi rfl T.isinstance (by decide +kernel) (pa_cons (pv 1) (pa_cons (pe_bltn rfl T.tuple (by decide +kernel) (v := V.ty "tuple") rfl) pa_nil))))) (pw_or (pt_cmpR op_ne (pe_callB call_len rfl T.len PySem.boot_len (pa_cons (pv 1) pa_nil)) pe_int (nomark _)) (pw_or1 (pt_not (pt_val (pe_callB call_isi rfl T.isinstance (by decide +kernel) (pa_cons (pe_ix ix_tup (pv 1) pe_int (fun _ _ => rfl)) (pa_cons (pe_bltn rfl T.list (by decide +kernel) (v := V.ty "list") rfl) pa_nil))))))))) (pss_one (ps_ret pe_bl)) pss_nil)
      (pss_cons (ps_set (i := 2) scLawIsBar.nd rfl (by first | exact Or.inl rfl | exact Or.inr rfl) (pe_callH HCm (hr.mono (by decide)) rfl (pa_cons (pv 0) pa_nil)))
      (pss_cons (ps_if (PW.pt (pw_or (pt_not (pt_val (pe_callB call_isi rfl T.isinstance (by decide +kernel) (pa_cons (pe_ix ix_tup (pv 1) pe_int (fun _ _ => rfl)) (pa_cons (pe_bltn rfl T.str (by decide +kernel) (v := V.ty "str") rfl) pa_nil))))) (pw_or (pt_not (pt_val (pe_callB call_isi rfl T.isinstance (by decide +kernel) (pa_cons (pe_ix ix_tup (pv 1) pe_int (fun _ _ => rfl)) (pa_cons (pe_bltn rfl T.str (by decide +kernel) (v := V.ty "str") rfl) pa_nil))))) (pw_or1 (pt_not (pt_cmpR op_lt_str (pe_ix ix_tup (pv 1) pe_int (fun _ _ => rfl)) (pe_ix ix_tup (pv 1) pe_int (fun _ _ => rfl)) (nomark _))))))) (pss_one (ps_ret pe_bl)) pss_nil)
      (pss_cons (ps_if (PW.pt (pw_or (pt_cmp (pc_dnotin (hu1 hr) (pe_ix ix_tup (pv 1) pe_int (fun _ _ => rfl)) (pv 2)) (by with_unfolding_all rfl)) (pw_or1 (pt_cmp (pc_dnotin (hu1 hr) (pe_ix ix_tup (pv 1) pe_int (fun _ _ => rfl)) (pv 2)) (by with_unfolding_all rfl))))) (pss_one (ps_ret pe_bl)) pss_nil)
      (pss_cons (ps_for PassesOwn.never rfl (pi_list (pe_ix ix_tup (pv 1) pe_int (fun _ _ => rfl))) (pg_name (i := 3) scLawIsBar.nd rfl (by first | exact Or.inl rfl | exact Or.inr rfl)) (pss_cons (ps_if (PW.pt (pw_or (pt_not (pt_val (pe_callB call_isi rfl T.isinstance (by decide +kernel) (pa_cons (pv 3) (pa_cons (pe_bltn rfl T.tuple (by decide +kernel) (v := V.ty "tuple") rfl) pa_nil))))) (pw_or (pt_cmpR op_ne (pe_callB call_len rfl T.len PySem.boot_len (pa_cons (pv 3) pa_nil)) pe_int (nomark _)) (pw_or1 (pt_val (pe_callB call_isi rfl T.isinstance (by decide +kernel) (pa_cons (pe_ix ix_tup (pv 3) pe_int (fun _ _ => rfl)) (pa_cons (pe_bltn rfl T.bool (by decide +kernel) (v := V.ty "bool") rfl) pa_nil)))))))) (pss_one (ps_ret pe_bl)) pss_nil)
      (pss_cons (ps_if (pt_cmpR (op_notInD (hu65 hr)) (pv 3) (pe_callH HEn (hr.mono (by decide)) rfl (pa_cons (pv 0) (pa_cons (pv 2) pa_nil))) (by with_unfolding_all rfl)) (pss_one (ps_ret pe_bl)) pss_nil)
      (pss_one (ps_set (i := 2) scLawIsBar.nd rfl (by first | exact Or.inl rfl | exact Or.inr rfl) (pe_callH HSu (hr.mono (by decide)) rfl (pa_cons (pv 2) (pa_cons (pv 3) pa_nil))))))))
      (pss_one (ps_ret (pe_and (pe_cmpR (op_eqD (hu64 hr)) (pe_dget (hu1 hr) (pv 2) (pe_ix ix_tup (pv 1) pe_int (fun _ _ => rfl)) (fun _ _ => rfl)) (pe_dget (hu1 hr) (pv 2) (pe_ix ix_tup (pv 1) pe_int (fun _ _ => rfl)) (fun _ _ => rfl)) (nomark _)) (pe_one (pe_cmpR op_eq (pe_callB call_len rfl T.len PySem.boot_len (pa_cons (pe_callH HEn (hr.mono (by decide)) rfl (pa_cons (pv 0) (pa_cons (pv 2) pa_nil))) pa_nil)) pe_int (nomark _))))))))))), ?_⟩
    have no : barB cells fs d = false → ∀ H', Same H H' → Q (.bl false) H' := fun e H' s => by
      have := k H' s
      rw [e] at this
      exact this
    refine ⟨_, rfl, _, _, _, _, isaD "tuple" d, rfl, .ty _, dt_ty hd, kit_D d (by simp), _, rfl, ?_⟩
    refine ite2 (fun h => ?_) (fun h => ?_)
    · have h' : isaD "tuple" d ≠ true := by simpa using h
      exact no (barB_no fun ds z o e => h' ((isa_tup d).mpr ⟨_, e⟩)) H (Same.refl _)
    have h' : isaD "tuple" d = true := by simpa using h
    obtain ⟨ds, rfl⟩ := (isa_tup d).mp h'
    obtain ⟨q, xs, rfl, nq, hq, all⟩ := dt_tup hd
    have lx := all.len
    refine ⟨_, rfl, _, _, rfl, .inr ⟨_, sqT hq, rfl⟩, rfl, _, rfl, ?_⟩
    refine ite2 (fun n3 => ?_) (fun n3 => ?_)
    · refine no (barB_no fun es z o e => ?_) H (Same.refl _)
      cases e
      have : xs.length = 3 := lx
      rw [this] at n3
      cases n3
    have l3 : ds.length = 3 := by
      have : (xs.length : Int) = 3 := by simpa using n3
      omega
    obtain ⟨d1, d2, d3, rfl⟩ : ∃ a b c, ds = [a, b, c] := by
      match ds, l3 with
      | [a, b, c], _ => exact ⟨a, b, c, rfl⟩
    obtain ⟨v1, v2, v3, rfl, h1, h2, h3⟩ : ∃ v1 v2 v3, xs = [v1, v2, v3] ∧ Dt N H v1 d1 ∧ Dt N H v2 d2 ∧ Dt N H v3 d3 := by
      cases all with
      | cons a r => cases r with
        | cons b r => cases r with
          | cons c r => cases r; exact ⟨_, _, _, rfl, a, b, c⟩
    refine ⟨_, rfl, q, _, _, _, rfl, rfl, sqT hq, at_of (j := 0) rfl rfl, _, _, _, _, isaD "list" d1, rfl, .ty _, dt_ty h1, kit_D d1 (by simp), _, rfl, ?_⟩
    refine ite2 (fun h => ?_) (fun h => ?_)
    · have hL : isaD "list" d1 ≠ true := by simpa using h
      refine no (barB_no fun es z o e => ?_) H (Same.refl _)
      cases e
      exact hL ((isa_lstB _).mpr ⟨_, rfl⟩)
    have hL : isaD "list" d1 = true := by simpa using h
    obtain ⟨es, rfl⟩ := (isa_lstB d1).mp hL
    obtain ⟨l, ys, rfl, hl, hes⟩ := dt_lst h1
    refine ⟨_, rfl, _, many, pc, pf, cy, cells, fs, rfl, pl, fun d0 F0 g0 H1 rise hh fd0 s1 => ?_⟩
    have lz : F0.length ≤ 24 := by
      have := rise.nd.length_le_of_subset (l₂ := fs.filterMap id) fun z hz => List.mem_filterMap.mpr ⟨some z, (rise.all z).mp hz, rfl⟩
      have := List.length_filterMap_le id fs
      omega
    have hq1 := s1 _ _ hq
    have h21 := h2.fr (FrO.same s1)
    have h31 := h3.fr (FrO.same s1)
    refine ⟨_, rfl, q, _, _, _, rfl, rfl, sqT hq1, at_of (j := 1) rfl rfl, _, _, _, _, isaD "str" d2, rfl, .ty _, dt_ty h21, kit_D d2 (by simp), _, rfl, ?_⟩
    refine ite2 (fun h => ?_) (fun h => ?_)
    · have hs : isaD "str" d2 ≠ true := by simpa using h
      refine no (barB_no fun es z o e => ?_) H1 s1
      cases e
      exact hs ((isa_strB _).mpr ⟨_, rfl⟩)
    have hs : isaD "str" d2 = true := by simpa using h
    obtain ⟨z, rfl⟩ := (isa_strB d2).mp hs
    obtain rfl := dt_str h2
    refine ⟨_, rfl, q, _, _, _, rfl, rfl, sqT hq1, at_of (j := 2) rfl rfl, _, _, _, _, isaD "str" d3, rfl, .ty _, dt_ty h31, kit_D d3 (by simp), _, rfl, ?_⟩
    refine ite2 (fun h => ?_) (fun h => ?_)
    · have hs : isaD "str" d3 ≠ true := by simpa using h
      refine no (barB_no fun es z o e => ?_) H1 s1
      cases e
      exact hs ((isa_strB _).mpr ⟨_, rfl⟩)
    have hs : isaD "str" d3 = true := by simpa using h
    obtain ⟨o, rfl⟩ := (isa_strB d3).mp hs
    obtain rfl := dt_str h3
    refine ⟨_, rfl, q, _, _, _, rfl, rfl, sqT hq1, at_of (j := 1) rfl rfl, _, rfl, q, _, _, _, rfl, rfl, sqT hq1, at_of (j := 2) rfl rfl, _, _, rfl, rfl, _, rfl, ?_⟩
    have is : barB cells fs (.tuple [.list es, .str z, .str o]) = (decide (some z ∈ fs) && decide (some o ∈ fs) && decide (z.cps.toList < o.cps.toList) && (match leftD cells fs (comO (rowsOf cells fs)).2 es with
      | none => false
      | some x => decide (x z = x o) && !canB cells fs (comO (rowsOf cells fs)).1 x)) := rfl
    refine ite2 (fun ge => ?_) (fun ge => ?_)
    · refine no ?_ H1 s1
      have : decide (z.cps.toList < o.cps.toList) = false := by simpa using ge
      rw [is, this, Bool.and_false, Bool.false_and]
    have lt : decide (z.cps.toList < o.cps.toList) = true := by simpa using ge
    rw [lt, Bool.and_true] at is
    have got : ∀ (H' : Hp) (y : Str), HeldAt H' d0 F0 (commonL (rowsOf cells fs)) g0 → DGet H' d0 (.str y) (if y ∈ F0 then some (.ref (g0 y)) else none) := fun H' y hh => by
      have := DGet.k (k := Sum.inr y) hh.at_
      by_cases h : y ∈ F0
      · rw [dk_val h] at this; rw [if_pos h]; exact this
      · rw [dk_none h] at this; rw [if_neg h]; exact this
    refine ⟨_, rfl, q, _, _, _, rfl, rfl, sqT hq1, at_of (j := 1) rfl rfl, _, rfl, d0, _, rfl, got H1 z hh, _, rfl, ?_⟩
    by_cases zF : z ∈ F0
    case neg =>
      rw [if_neg zF]
      refine iteT (no ?_ H1 s1)
      rw [is, decide_eq_false (fun h => zF ((rise.all z).mpr h)), Bool.false_and, Bool.false_and]
    rw [if_pos zF]
    refine iteF ⟨_, rfl, q, _, _, _, rfl, rfl, sqT hq1, at_of (j := 2) rfl rfl, _, rfl, d0, _, rfl, got H1 o hh, _, rfl, ?_⟩
    by_cases oF : o ∈ F0
    case neg =>
      rw [if_neg oF]
      refine iteT (no ?_ H1 s1)
      rw [is, decide_eq_false (fun h => oF ((rise.all o).mpr h)), Bool.and_false, Bool.false_and]
    rw [if_pos oF]
    refine iteF ?_
    rw [decide_eq_true ((rise.all z).mp zF), decide_eq_true ((rise.all o).mp oF), Bool.true_and, Bool.true_and] at is
    rw [is] at k no
    have S0 : Says F0 (commonL (rowsOf cells fs)) (comO (rowsOf cells fs)).2 := says_common lfs ok6 fun y hy => (rise.all y).mp hy
    have memC : ∀ y, y ∈ (comO (rowsOf cells fs)).1 ↔ y ∈ F0 := fun y => by rw [(com_names (cells := cells) (fs := fs) ok6).1.mem, ← named_in lfs, rise.all]
    generalize (comO (rowsOf cells fs)).1 = C0 at *
    generalize (comO (rowsOf cells fs)).2 = x0 at *
    have shapes := shape es (.str z) (.str o) rfl
    have hl1 := s1 _ _ hl
    refine ⟨_, rfl, q, _, _, _, rfl, rfl, sqT hq1, at_of (j := 0) rfl rfl, l, rfl, ⟨_, SqL.of hl1⟩, ?_⟩
    refine for_list (K := K) (a := l) (xs := ys) (fun i σ H2 => Same H H2 ∧ (∃ (e : Addr) (ms : Str → List Int) (g : Str → Addr) (x : Str → Nat), HeldAt H2 e F0 ms g ∧ Says F0 ms x ∧ leftD cells fs x0 (es.take i) = some x ∧ ∃ o3 : Option V, σ = [some (.ref tp), some (.ref q), some (.ref e), o3]))
      ⟨s1, d0, _, g0, x0, hh, S0, rfl, _, rfl⟩ (fun i σ H2 _ ⟨s, _⟩ => SqL.of (s _ _ hl)) ?_ ?_
    · rintro i v σ H2 hi ⟨s2, e, ms, g, x, hh2, S, hx, o3, rfl⟩
      obtain ⟨d, he, hv⟩ := hes.get hi
      have hv2 := hv.fr (FrO.same s2)
      have dmem := List.mem_of_getElem? he
      have tk : es.take (i + 1) = es.take i ++ [d] := by rw [List.take_add_one, he]; rfl
      have stop : leftD cells fs x [d] = none → ∀ H', Same H H' → Q (.bl false) H' := fun h H' s => by
        refine no ?_ H' s
        have : leftD cells fs x0 es = none := by
          rw [← List.take_append_drop (i + 1) es]
          refine leftD_more _ _ ?_
          rw [tk, leftD_snoc, hx]
          exact h
        rw [this]
      have pl2 := pl.same s2
      refine ⟨_, rfl, _, _, _, _, isaD "tuple" d, rfl, .ty _, dt_ty hv2, kit_D d (by simp), _, rfl, ?_⟩
      refine ite2 (fun h => ?_) (fun h => ?_)
      · have hT : isaD "tuple" d ≠ true := by simpa using h
        exact stop (leftD_no (namesD_other fun z o i e => hT ((isa_tup d).mpr ⟨_, e⟩))) H2 s2
      have hT : isaD "tuple" d = true := by simpa using h
      obtain ⟨ds', rfl⟩ := (isa_tup d).mp hT
      obtain ⟨u, xs', rfl, nu, hu, all'⟩ := dt_tup hv2
      have lx' := all'.len
      refine ⟨_, rfl, _, _, rfl, .inr ⟨_, sqT hu, rfl⟩, rfl, _, rfl, ?_⟩
      refine ite2 (fun n3' => ?_) (fun n3' => ?_)
      · refine stop (leftD_no (namesD_other fun z o i e => ?_)) H2 s2
        cases e
        have : xs'.length = 3 := lx'
        rw [this] at n3'
        cases n3'
      have l3' : ds'.length = 3 := by
        have : (xs'.length : Int) = 3 := by simpa using n3'
        omega
      obtain ⟨b1, b2, b3, rfl⟩ : ∃ a b c, ds' = [a, b, c] := by
        match ds', l3' with
        | [a, b, c], _ => exact ⟨a, b, c, rfl⟩
      obtain ⟨w1, w2, w3, rfl, g1, g2, g3⟩ : ∃ v1 v2 v3, xs' = [v1, v2, v3] ∧ Dt N H2 v1 b1 ∧ Dt N H2 v2 b2 ∧ Dt N H2 v3 b3 := by
        cases all' with
        | cons a r => cases r with
          | cons b r => cases r with
            | cons c r => cases r; exact ⟨_, _, _, rfl, a, b, c⟩
      refine ⟨_, rfl, u, _, _, _, rfl, rfl, sqT hu, at_of (j := 2) rfl rfl, _, _, _, _, isaD "bool" b3, rfl, .ty _, dt_ty g3, kit_D b3 (by simp), _, rfl, ?_⟩
      refine ite2 (fun bb => ?_) (fun bb => ?_)
      · exact stop (leftD_no (namesD_bool bb)) H2 s2
      have sh := shapes _ dmem b1 b2 b3 rfl
      refine ⟨_, rfl, _, rfl, _, rfl, _, many, pc, pf, cy, cells, fs, e, F0, ms, g, rfl, pl2, hh2, rise.nd, lz, fun z hz => (rise.all z).mpr hz, fun z hz => (S z hz).1, fun l3 ys3 ts3 H3 e3 k3 I3 n3 _ s3 => ?_⟩
      have ok3 : ∀ y ∈ ts3, OkS y := fun y hy => by
        have q' := (I3 y).mp hy
        exact ⟨(wd _ ((rise.all _).mp q'.inF)).strOk, (wd _ (List.mem_of_getElem? q'.form)).strOk⟩
      have hv3 := hv2.fr (FrO.same s3)
      refine ⟨.tuple [b1, b2, b3], ts3.map stkD, dt_dpB hv3 (SeqAt.canLay_of_shaped sh), .lst (SqL.of e3) (dp_stks k3 ok3), sh, sh_stks ok3, _, rfl, ?_⟩
      refine ite2 (fun out => ?_) (fun ins => ?_)
      · have none' : ∀ t ∈ ts3, PyData.eqv (stkD t) (.tuple [b1, b2, b3]) ≠ true := fun t ht q' => by
          have : ((ts3.map stkD).any fun z => PyData.eqv z (.tuple [b1, b2, b3])) = true := List.any_eq_true.mpr ⟨_, List.mem_map.mpr ⟨t, ht, rfl⟩, q'⟩
          rw [this] at out
          cases out
        refine stop ?_ H3 (s2.trans s3)
        cases hn : namesD fs (.tuple [b1, b2, b3]) with
        | none => exact leftD_no hn
        | some t =>
          obtain ⟨eq, z1, ho⟩ := namesD_is hn
          have lj := (List.getElem?_eq_some_iff.mp ho).1
          obtain ⟨c, hc⟩ : ∃ c, cells[t.2.2]? = some c := ⟨_, List.getElem?_eq_getElem (by omega)⟩
          rw [leftD_one hn hc]
          refine if_neg fun st => ?_
          have ends := (says_ends S ok6 (z := t.1) (o := t.2.1) ((rise.all _).mpr z1) ((rise.all _).mpr (List.mem_of_getElem? ho)) hc ho).mp st
          have tin := (I3 t).mpr ends
          refine none' t tin ?_
          rw [eq]
          exact eqv_same (sh_stk (ok3 t tin))
      · have any : ((ts3.map stkD).any fun z => PyData.eqv z (.tuple [b1, b2, b3])) = true := by simpa using ins
        rw [List.any_eq_true] at any
        obtain ⟨y, hy, ye⟩ := any
        obtain ⟨t, ht, rfl⟩ := List.mem_map.mp hy
        have eq := eqv_stk bb ye
        have ends := (I3 t).mp ht
        obtain ⟨c, hc, _⟩ := id ends.cell
        have oF' := (rise.all _).mpr (List.mem_of_getElem? ends.form)
        have st := (says_ends S ok6 (z := t.1) (o := t.2.1) ends.inF oF' hc ends.form).mpr ends
        have hn : namesD fs (.tuple [b1, b2, b3]) = some t := by rw [eq]; exact namesD_of ((rise.all _).mp ends.inF) ends.form
        have tt : Tup H3 (.ref u) [.str t.1, .str t.2.1, .int (t.2.2 : Nat)] := by
          refine ⟨u, rfl, ?_⟩
          have hu3 := s3 _ _ hu
          unfold stkD at eq
          simp only [PyData.tuple.injEq, List.cons.injEq, and_true] at eq
          obtain ⟨rfl, rfl, rfl⟩ := eq
          rw [dt_str g1, dt_str g2, dt_int g3] at hu3
          exact hu3
        refine ⟨_, rfl, _, rfl, e, .ref u, F0, ms, g, t, rfl, hh2.same s3, lz, tt, ends.inF, oF', fun z hz => (S z hz).1, fun e' g' H4 hh4 _ s4 => ?_⟩
        refine ⟨(s2.trans s3).trans s4, e', _, g', stepX x t, hh4, S.hit ends.inF oF', ?_, _, rfl⟩
        rw [tk, leftD_snoc, hx]
        show leftD cells fs x [_] = _
        rw [leftD_one hn hc, if_pos st]
    · rintro σ H2 ⟨s2, e, ms, g, x, hh2, S, hx, o3, rfl⟩
      have ly := hes.len
      rw [ly, List.take_length] at hx
      rw [hx] at k
      have hq2 := s2 _ _ hq
      have same : decide (ms z = ms o) = decide (x z = x o) := by
        by_cases h : x z = x o
        · rw [decide_eq_true h, decide_eq_true]
          exact MarksOk.one (S z zF).1 (S o oF).1 fun m => by rw [(S z zF).2, (S o oF).2, h]
        · rw [decide_eq_false h, decide_eq_false]
          exact fun q' => h (has_ext fun m => by rw [← (S z zF).2, ← (S o oF).2, q'])
      refine ⟨_, rfl, _, rfl, q, _, _, _, rfl, rfl, sqT hq2, at_of (j := 1) rfl rfl, e, _, rfl, dgetD hh2 zF, _, rfl, _, rfl, q, _, _, _, rfl, rfl, sqT hq2, at_of (j := 2) rfl rfl, e, _, rfl, dgetD hh2 oF, mkD (ms z), mkD (ms o), dp_mk ⟨_, rfl, hh2.each z zF⟩, dp_mk ⟨_, rfl, hh2.each o oF⟩, sh_mkB _, sh_mkB _, _, rfl, ?_⟩
      rw [eqv_mkB, same]
      refine ite2 (fun sm => ?_) (fun df => ?_)
      · have pl2 := pl.same s2
        refine ⟨_, rfl, _, rfl, _, many, pc, pf, cy, cells, fs, e, F0, ms, g, rfl, pl2, hh2, rise.nd, lz, fun z hz => (rise.all z).mpr hz, fun z hz => (S z hz).1, fun l3 ys3 ts3 H3 e3 k3 I3 n3 _ s3 => ?_⟩
        have ly3 := Paired.length k3
        refine ⟨_, _, rfl, .inl ⟨_, SqL.of e3, rfl⟩, rfl, ?_⟩
        have kk := k H3 (s2.trans s3)
        dsimp only at kk
        rw [sm, Bool.true_and] at kk
        have can := canB_is (F := C0) ok6 S memC fun z hz => (rise.all z).mpr hz
        have fin : decide (V.int (ys3.length : Nat) = V.int 0) = !canB cells fs C0 x := by
          cases hc : canB cells fs C0 x with
          | true =>
            obtain ⟨t, ht⟩ := can.mp hc
            have := List.length_pos_of_mem ((I3 t).mpr ht)
            exact decide_eq_false fun q' => by have := V.int.inj q'; omega
          | false =>
            have nil : ts3 = [] := List.eq_nil_iff_forall_not_mem.mpr fun t ht => by
              have := can.mpr ⟨t, (I3 t).mp ht⟩
              rw [hc] at this
              cases this
            rw [nil] at ly3
            rw [ly3]
            rfl
        show Q (.bl (decide (V.int (ys3.length : Nat) = V.int 0))) H3
        rw [fin]
        exact kk
      · have kk := k H2 s2
        dsimp only at kk
        rw [Bool.eq_false_iff.mpr df, Bool.false_and] at kk
        exact kk
end
end Xci

namespace Xci
open PySem L2
section
variable {cells : List (List Int)} {fs : List (Option Str)} {F : List Str} {s : StS}
theorem RunEnd.words (h : RunEnd cells fs F s) (ok : ∀ c ∈ cells, MarksOk 6 c) (len : fs.length = cells.length) : ∀ z ∈ F, some z ∈ fs := fun z hz => (named_in len).mpr (((h.names ok).mem z).mp hz)
theorem RunEnd.okS (h : RunEnd cells fs F s) (ok : ∀ c ∈ cells, MarksOk 6 c) (len : fs.length = cells.length) (wd : ∀ z, some z ∈ fs → WordOk z) : ∀ t ∈ s.2, OkS t := fun t ht => by
  obtain ⟨i, hi⟩ := List.mem_iff_getElem?.mp ht
  obtain ⟨a, b, _⟩ := (h.chain ok).at'.2 i t hi
  exact ⟨(wd _ (h.words ok len _ a)).strOk, (wd _ (h.words ok len _ b)).strOk⟩
end
theorem BarShape.of3 {ds : List PyData} {a b : PyData} (h : ∀ e ∈ ds, StkShape e) : BarShape (.tuple [.list ds, a, b]) := fun ds' a' b' e => by
  cases e; exact h
theorem stk_all {ts : List Stk} (ok : ∀ t ∈ ts, OkS t) : ∀ e ∈ ts.map stkD, StkShape e := fun e he => by
  obtain ⟨t, ht, rfl⟩ := List.mem_map.mp he
  exact fun _ _ _ _ => sh_stk (ok t ht)
theorem dt_stks0 {H : Hp} : ∀ {ys : List V} {ts : List Stk}, Stks H ys ts → DtAll (fun _ => False) H ys (ts.map stkD)
  | _, _, .nil => .nil
  | _, _, .cons h r => .cons (by
      obtain ⟨p, rfl, e⟩ := h
      exact .tup (fun n => n) e (.cons (.str _) (.cons (.str _) (.cons (.int _) .nil)))) (dt_stks0 r)
def entsD (es : List Ent) : PyData := .list (es.map fun e => PyData.tuple [.tuple (e.1.map PyData.int), .str e.2])
theorem sh_entsL {es : List Ent} (ok : ∀ e ∈ es, PyData.strOk e.2 = true) : SeqAt.shaped (entsD es) = true := by
  obtain ⟨a, b⟩ := lay_entsB ok
  have d : PyData.depth (entsD es) ≤ 64 := by
    unfold entsD
    simp only [PyData.depth]
    omega
  unfold SeqAt.shaped
  rw [decide_eq_true d, Bool.and_true]
  unfold entsD
  simpa [PyData.canLay0] using a
theorem lay_books : ∀ {bs : List (List Ent)}, (∀ es ∈ bs, ∀ e ∈ es, PyData.strOk e.2 = true) → PyData.canLayAll0 (bs.map entsD) = true ∧ PyData.depthAll (bs.map entsD) ≤ 3
  | [], _ => ⟨rfl, Nat.zero_le _⟩
  | es :: r, ok => by
    obtain ⟨a, b⟩ := lay_books (bs := r) fun x hx => ok x (List.mem_cons_of_mem _ hx)
    obtain ⟨h1, h2⟩ := lay_entsB (ok es List.mem_cons_self)
    rw [List.map_cons]
    refine ⟨?_, ?_⟩
    · rw [PyData.canLayAll0, Bool.and_eq_true]
      refine ⟨?_, a⟩
      unfold entsD
      simpa [PyData.canLay0] using h1
    · rw [PyData.depthAll]
      unfold entsD at b ⊢
      rw [PyData.depth]
      omega
theorem sh_books {bs : List (List Ent)} (ok : ∀ es ∈ bs, ∀ e ∈ es, PyData.strOk e.2 = true) : SeqAt.shaped (.list (bs.map entsD)) = true := by
  obtain ⟨a, b⟩ := lay_books ok
  have d : PyData.depth (.list (bs.map entsD)) ≤ 64 := by
    simp only [PyData.depth]
    omega
  unfold SeqAt.shaped
  rw [decide_eq_true d, Bool.and_true]
  simpa [PyData.canLay0] using a
theorem dp_books {K : PySem.W.Frag} {H : Hp} : ∀ {ys : List V} {bs : List (List Ent)}, Paired (EntL H) ys bs → (∀ es ∈ bs, ∀ e ∈ es, PyData.strOk e.2 = true) → DpAll K H ys (bs.map entsD)
  | _, _, .nil, _ => .nil
  | _, _, .cons h r, ok => .cons (by
      obtain ⟨l, us, rfl, h1, h2⟩ := h
      exact .lst (SqL.of h1) (dp_entsB h2 (ok _ List.mem_cons_self))) (dp_books r fun es hes => ok es (List.mem_cons_of_mem _ hes))
theorem iteT2 {c : Prop} [Decidable c] {A B : Prop} (q : c) (h : A) : if c then A else B := by rw [if_pos q]; exact h
theorem iteF2 {c : Prop} [Decidable c] {A B : Prop} (q : ¬ c) (h : B) : if c then A else B := by rw [if_neg q]; exact h
section
variable {P : Program} {w : World} {K : PySem.W.Frag} {mg : Str → Option Value} {base : Heap}
abbrev sLaw : Stmt := top 85
theorem scLaw : FnScope ["script", "source", "plot", "table", "due", "told", "bar", "ends", "entries", "entry", "form"] ["script"] (defScope sLaw) := ⟨rfl, rfl, rfl, by decide +kernel, rfl, by decide +kernel, by decide +kernel⟩
set_option maxHeartbeats 8000000 in
theorem ok_law {f t CF C CB : Addr} {fd : FuncData} (F : Fun K "law" "law" sLaw f fd) (T : Txt mg) (mgB : mg "Book" = some (.ref CB)) (CTb : ClsTy K CB) (HSo : Has P w K mg base "_law_source" ["script"] 1 (spSource K)) (HPl : Has P w K mg base "_law_plot" ["source", "most", "forms", "marks"] 5 (spPlot t (fun H => LamX.TabS H t lamName) Fr3))
    (HTb : Has P w K mg base "_law_table" ["plot"] 7 (spPlotTable CF C)) (HWs : Has P w K mg base "_law_within_books" ["plot"] 4 spWithinBooks) (HWb : Has P w K mg base "within_book" ["table"] 8 (spWithinX CF C CB)) (HSb : Has P w K mg base "shrunk_bar" ["table"] 5 (spShrunkBar CF C)) (HLb : Has P w K mg base "_law_is_bar" ["plot", "thing"] 3 spLawBar) (HIs : Has P w K mg base "is_shrunk_bar" ["table", "thing"] 6 (spBarD CF C)) (HFl : Has P w K mg base "_law_flag" ["told", "due"] 1 spLawFlag)
    (HSk : Has P w K mg base "shrunk" ["table"] 3 (spShrunk CF C)) (HLi : Has P w K mg base "_law_lies" ["one", "other"] 1 spIn) (HBk : HasC P w K mg base "Book" CB ["self", "manner", "entries", "weights"] 6 (spBook CB)) (HBe : HasE P w K mg base CB 1 (BookSame CB)) (hn : PySem.W.findIn K (.ref CB) "__ne__" = some (some (.builtin "object.__ne__"))) (top : PySem.W.mroIn K CB (.type "object") = some true)
    (HMk : Has P w K mg base "makes" ["book", "table"] 6 (spMakes CF C CB)) : FnOk P w K mg base CX0 9 f fd ["script"] (spLawT t K) := by
  refine F.ok scLaw (fun vs H Q E h => ?_) (fun cdv A outer s H vs Q E hr h => ?_)
  · obtain ⟨a, ns, rfl, _⟩ := h
    rfl
  · obtain ⟨a, ns, rfl, hS, hlen, ht, k⟩ := h
    refine ⟨_, (pss_cons (ps_set (i := 1) scLaw.nd rfl (by first | exact Or.inl rfl | exact Or.inr rfl) (pe_callH HSo (hr.mono (by decide)) rfl (pa_cons (pv 0) pa_nil)))
      (pss_cons (ps_set (i := 2) scLaw.nd rfl (by first | exact Or.inl rfl | exact Or.inr rfl) (pe_callH HPl (hr.mono (by decide)) rfl (pa_cons (pv 1) (pa_cons pe_int (pa_cons pe_int (pa_cons pe_int pa_nil))))))
      (pss_cons (ps_set (i := 3) scLaw.nd rfl (by first | exact Or.inl rfl | exact Or.inr rfl) (pe_callH HTb (hr.mono (by decide)) rfl (pa_cons (pv 2) pa_nil)))
      (pss_cons (ps_set (i := 4) scLaw.nd rfl (by first | exact Or.inl rfl | exact Or.inr rfl) (pe_callH HWs (hr.mono (by decide)) rfl (pa_cons (pv 2) pa_nil)))
      (pss_cons (ps_set (i := 5) scLaw.nd rfl (by first | exact Or.inl rfl | exact Or.inr rfl) (pe_callH HWb (hr.mono (by decide)) rfl (pa_cons (pv 3) pa_nil)))
      (pss_cons (ps_set (i := 6) scLaw.nd rfl (by first | exact Or.inl rfl | exact Or.inr rfl) (pe_callH HSb (hr.mono (by decide)) rfl (pa_cons (pv 3) pa_nil)))
      (pss_cons (ps_if (PW.pt (pw_or (pt_cmpR op_ne (pe_cmpR op_notN (pv 5) pe_non (nomark _)) (pe_cmpR op_gt (pe_callB call_len rfl T.len PySem.boot_len (pa_cons (pv 4) pa_nil)) pe_int (nomark _)) (nomark _)) (pw_or1 (pt_cmpR op_ne (pe_cmpR op_isN (pv 6) pe_non (nomark _)) (pe_cmpR op_gt (pe_callB call_len rfl T.len PySem.boot_len (pa_cons (pv 4) pa_nil)) pe_int (nomark _)) (nomark _))))) (pss_one (ps_ret pe_bl)) pss_nil)
      (pss_cons (ps_if (pt_cmpR op_notN (pv 6) pe_non (nomark _)) (pss_one (ps_ret (pe_and (pe_callH HLb (hr.mono (by decide)) rfl (pa_cons (pv 2) (pa_cons (pv 6) pa_nil))) (pe_one (pe_callH HFl (hr.mono (by decide)) rfl (pa_cons (pe_callH HIs (hr.mono (by decide)) rfl (pa_cons (pv 3) (pa_cons (pv 6) pa_nil))) (pa_cons pe_bl pa_nil))))))) pss_nil)
      (pss_cons (ps_set (i := 7) scLaw.nd rfl (by first | exact Or.inl rfl | exact Or.inr rfl) (pe_callH HSk (hr.mono (by decide)) rfl (pa_cons (pv 3) pa_nil)))
      (pss_cons (ps_for PassesOwn.never rfl (pi_list (pv 4)) (pg_name (i := 8) scLaw.nd rfl (by first | exact Or.inl rfl | exact Or.inr rfl)) (pss_one (ps_if (pt_not (pt_val (pe_callB (cr_all rfl) rfl T.all (by decide +kernel) (pa_cons (pe_lc (own := [("entry", 9)]) rfl scLaw.nd (pi_list (pv 8)) (blkOk_by (N := ["script", "source", "plot", "table", "due", "told", "bar", "ends", "entries", "entry", "form"]) (sc := defScope sLaw) (by decide +kernel)) (fun _ _ _ _ _ => (pg_name (i := 9) scLaw.nd rfl (by first | exact Or.inl rfl | exact Or.inr rfl))) (fun _ _ _ _ _ => pts_nil) (fun _ _ _ _ _ => (pe_callH HLi (hr.mono (by decide)) rfl (pa_cons (pe_ix (show IxR _ (rIxT K) from ix_tup) (pv 9) pe_int (fun _ _ => rfl)) (pa_cons (pe_dget (hu1 hr) (pv 7) (pe_ix (show IxR _ (rIxT K) from ix_tup) (pv 9) pe_int (fun _ _ => rfl)) (fun _ _ => rfl)) pa_nil))))) pa_nil)))) (pss_one (ps_ret pe_bl)) pss_nil)))
      (pss_cons (ps_set (i := 8) scLaw.nd rfl (by first | exact Or.inl rfl | exact Or.inr rfl) (pe_callTy call_tuple_of rfl T.tuple (by decide +kernel) (pa_cons (pe_lc (own := [("form", 10)]) rfl scLaw.nd (pi_list (pe_callB cr_sortedS rfl T.sorted (by decide +kernel) (pa_cons (pe_callTy (call_list_dK rfl) rfl T.list (by decide +kernel) (pa_cons (pv 7) pa_nil)) pa_nil))) (blkOk_by (N := ["script", "source", "plot", "table", "due", "told", "bar", "ends", "entries", "entry", "form"]) (sc := defScope sLaw) (by decide +kernel)) (fun _ _ _ _ _ => (pg_name (i := 10) scLaw.nd rfl (by first | exact Or.inl rfl | exact Or.inr rfl))) (fun _ _ _ _ _ => pts_nil) (fun _ _ _ _ _ => (pe_tup (pa_cons (pe_dget (hu1 hr) (pv 7) (pv 10) (fun _ _ => rfl)) (pa_cons (pv 10) pa_nil))))) pa_nil)))
      (pss_cons (ps_if (PW.pt (pw_or (pt_cmpR (op_neH HBe hn top (hr.mono (by decide))) (pv 5) (pe_makeH HBk (hr.mono (by decide)) rfl (pa_cons pe_str (pa_cons (pv 8) (pa_cons pe_non pa_nil)))) (nomark _)) (pw_or (pt_not (pt_val (pe_callB call_isi rfl T.isinstance (by decide +kernel) (pa_cons (pv 5) (pa_cons (pe_glob (v := .ref CB) rfl mgB rfl) pa_nil))))) (pw_or1 (pt_cmpR (op_notInD (hu65 hr)) (pe_callTy call_list_of rfl T.list (by decide +kernel) (pa_cons (pv 8) pa_nil)) (pv 4) (by with_unfolding_all rfl)))))) (pss_one (ps_ret pe_bl)) pss_nil)
      (pss_one (ps_ret (pe_and (pe_callH HFl (hr.mono (by decide)) rfl (pa_cons (pe_callH HMk (hr.mono (by decide)) rfl (pa_cons (pv 5) (pa_cons (pv 3) pa_nil))) (pa_cons pe_bl pa_nil))) (pe_one (pe_cmpR (op_alike (op := .Eq) (.inl rfl) (hu4 hr)) (pe_callH HSk (hr.mono (by decide)) rfl (pa_cons (pv 3) pa_nil)) (pv 7) (nomark _)))))))))))))))))), ?_⟩
    refine ⟨_, rfl, a, ns, rfl, hS, hlen, fun sa sl H1 hd1 s1 => ?_⟩
    have ht1 : LamX.TabS H1 t lamName := LamX.TabS.nil (s1 _ _ ht)
    refine ⟨_, rfl, sa, sl, 8, 3, 3, rfl, hd1, ht1, by decide, by decide, by decide, by decide, by decide, by decide, fun v many pc pf cy cells fs zs0 H3 pl _ m3 z3 zin hd3 _ _ => ?_⟩
    clear ht ht1 hd1 s1 hS
    have f3 : ∀ us, Rising fs us → us.length ≤ 3 := fun us rise => Nat.le_trans (rise.nd.length_le_of_subset fun z hz => zin z ((rise.all z).mp hz)) z3
    have lfs := pl.forms.len
    have few := pl.fok.len
    have ok6 := pl.ok6
    have wd := pl.forms.word
    refine ⟨_, rfl, v, many, pc, pf, cy, cells, fs, rfl, pl, fun tb fam H4 ⟨dt, et⟩ ⟨df, ef⟩ _ s4 => ?_⟩
    have pl4 := pl.same s4
    have tab4 : TabX CF C H4 tb cells fs := ⟨⟨fam, pf, many, pc, cy, ⟨dt, et⟩, pl4.fp, ⟨df, ef⟩, pl4.cp, pl4.cm⟩, ok6, few, lfs.symm, wd⟩
    refine ⟨_, rfl, v, many, pc, pf, cy, cells, fs, rfl, pl4, m3, f3, fun q zs ys H5 rise eq5 due5 s5 => ?_⟩
    have pl5 := pl4.same s5
    have tab5 := tab4.same s5
    refine ⟨_, rfl, tb, cells, fs, rfl, tab5, fun told G r H6 run alt6 s6 => ?_⟩
    have pl6 := pl5.same s6
    have tab6 := tab5.same s6
    refine ⟨_, rfl, tb, cells, fs, rfl, tab6, fun bar G' r' H7 run' alt7 s7 => ?_⟩
    obtain ⟨rfl, rfl⟩ := run.one run'
    have pl7 := pl6.same s7
    have tab7 := tab6.same s7
    have s57 := s6.trans s7
    have eq7 := s57 _ _ eq5
    have due7 : Paired (EntL H7) ys (booksW (rowsOf cells fs) zs) := Paired.mapP due5 fun y es ⟨l, vs, e, h1, h2⟩ => ⟨l, vs, e, s57 _ _ h1, Ents.keep (TFr.same s57) h2⟩
    have ly := Paired.length due7
    have iff := run.books_iff ok6 lfs rise
    have okT : ∀ t ∈ r.2, OkS t := run.okS ok6 lfs wd
    clear pl4 pl5 pl6 tab4 tab5 tab6 due5 eq5
    rcases alt7 with ⟨ap, rfl⟩ | ⟨p, dn, us, z, o, rfl, hp, hl, fl, hs, zF, oF, e, lt⟩
    · rcases alt6 with ⟨_, bk, zs', rfl, rise', bs⟩ | ⟨na, _⟩
      · obtain rfl := rise'.one rise
        have pos := iff.mpr ap
        have pos' : decide ((0 : Int) < ((ys.length : Nat) : Int)) = true := decide_eq_true (by omega)
        refine ⟨_, rfl, rfl, _, rfl, _, _, rfl, .inl ⟨_, SqL.of eq7, rfl⟩, _, _, rfl, rfl, rfl, _, rfl, ?_⟩
        refine iteF2 (by show ¬ (!decide ((V.bl !decide (V.ref bk = V.non)) = V.bl (decide ((0 : Int) < ((ys.length : Nat) : Int))))) = true; rw [pos']; simp) ?_
        refine ⟨_, rfl, rfl, _, rfl, _, _, rfl, .inl ⟨_, SqL.of eq7, rfl⟩, _, _, rfl, rfl, rfl, _, rfl, ?_⟩
        refine iteF2 (by show ¬ (!decide (V.bl (decide (V.non = V.non)) = V.bl (decide ((0 : Int) < ((ys.length : Nat) : Int))))) = true; rw [pos']; simp) ?_
        refine ⟨_, rfl, rfl, _, rfl, ?_⟩
        refine iteF2 (by simp) ?_
        obtain ⟨fam', pf', many', pc', cy', hta, hp, hfam, hpc, cm⟩ := tab7.ex
        refine ⟨_, rfl, tb, fam', pf', fs, many', pc', cy', cells, rfl, hta, hp, hfam, hpc, cm, ok6, few, lfs.symm, fun d8 G8 r8 g8 H8 run8 hh8 fd8 s8 => ?_⟩
        obtain ⟨rfl, rfl⟩ := run.one run8
        have due8 : Paired (EntL H8) ys (booksW (rowsOf cells fs) zs') := Paired.mapP due7 fun y es ⟨l, vs, e, h1, h2⟩ => ⟨l, vs, e, s8 _ _ h1, Ents.keep (TFr.same s8) h2⟩
        have eq8 := s8 _ _ eq7
        have N := run.names ok6
        have memG : ∀ z, z ∈ zs' ↔ z ∈ G := fun z => by rw [rise.all, N.mem, named_in lfs]
        refine ⟨_, rfl, q, rfl, ⟨_, SqL.of eq8⟩, ?_⟩
        refine for_list (K := K) (a := q) (xs := ys) (fun i σ H9 => Same H8 H9 ∧ ∃ o8 : Option V, σ = [some (.ref a), some (.ref sa), some v, some (.ref tb), some (.ref q), some (.ref bk), some .non, some (.ref d8), o8, none, none])
          ⟨Same.refl _, _, rfl⟩ (fun i σ H9 _ ⟨s, _⟩ => SqL.of (s _ _ eq8)) ?_ ?_
        · rintro i y σ H9 hi ⟨s9, o8, rfl⟩
          obtain ⟨es, hes, l, us, rfl, hl, hu⟩ := Paired.get due8 hi
          have mes := List.mem_of_getElem? hes
          obtain ⟨_, below⟩ := run.books_below ok6 lfs rise mes
          obtain ⟨nm, lt, _⟩ := books_names mes
          have lz := f3 zs' rise
          have les : es.length ≤ 3 := by
            have := congrArg List.length nm
            rw [List.length_map] at this
            omega
          have lus := Paired.length hu
          have hl9 := s9 _ _ hl
          have hh9 := hh8.same s9
          refine ⟨_, rfl, l, rfl, ⟨_, SqL.of hl9⟩, fun D hD => ?_⟩
          refine lc_list (K := K) (a := l) (xs := us) (fun n H10 => Same H9 H10 ∧ H10 D = some (.lst ((List.replicate n true).map V.bl)) ∧ n ≤ 3) ⟨Same.new hD, upd_same, by omega⟩ (fun n H10 _ ⟨s, _⟩ => SqL.of (s _ _ hl9)) ?_ ?_
          · rintro n y H10 hn ⟨s10, eD, n3⟩
            obtain ⟨e, he, u, ⟨tp, rfl, htp⟩, hm⟩ := Paired.get hu hn
            have ilt := (List.getElem?_eq_some_iff.mp hn).1
            have hme := List.mem_of_getElem? he
            have ez : e.2 ∈ zs' := by rw [← nm]; exact List.mem_map.mpr ⟨e, hme, rfl⟩
            have eG := (memG _).mp ez
            have hh10 := hh9.same s10
            have s810 := s9.trans s10
            have l6 : e.1.length ≤ 1000 := by
              have hz := (rise.all _).mp ez
              exact Nat.le_trans (lots_sub (lt e hme)).length_le (Nat.le_trans (commonL_ok (n := 6) (cells_named lfs hz) fun c hc => ok6 c (cells_told hc)).len (by decide))
            refine ⟨rfl, _, rfl, tp, _, _, _, rfl, rfl, sqT (s810 _ _ htp), at_of (j := 0) rfl rfl, _, rfl, _, rfl, tp, _, _, _, rfl, rfl, sqT (s810 _ _ htp), at_of (j := 1) rfl rfl, d8, _, rfl, dgetD hh10 eG, u, .ref (g8 e.2), e.1, marksN (r.1 e.2), rfl, Tup.keep (TFr.same s810) hm, ⟨_, rfl, hh10.each _ eG⟩, l6, fun H11 s11 => ?_⟩
            rw [below e hme]
            have e11 := s11 _ _ eD
            refine ⟨_, e11, by rw [List.length_map, List.length_replicate]; exact small1000 (by omega), fun b o h => by rw [upd_ne (ne_of_none h hD)]; exact s11 _ _ (s10 b o h), ?_, by omega⟩
            rw [upd_same, List.replicate_succ', List.map_append]
            rfl
          · rintro H10 ⟨s10, eD, n3⟩
            refine ⟨D, _, rfl, SqL.of eD, _, rfl, ?_⟩
            have all1 : ∀ n : Nat, (List.replicate n true).all id = true := fun n => List.all_eq_true.mpr fun b hb => (List.mem_replicate.mp hb).2
            exact iteF2 (by rw [all1]; decide) ⟨s9.trans s10, _, rfl⟩
        · rintro σ H9 ⟨s9, o8, rfl⟩
          have hh9 := hh8.same s9
          have Gl : G.length ≤ 24 := Nat.le_trans (run.len ok6) few
          refine ⟨_, rfl, d8, _, rfl, hh9.at_, fun q2 hq2 => ?_⟩
          rw [dk_fst]
          have s10 : Same H9 (upd H9 q2 (.lst (G.map V.str))) := Same.new hq2
          have e10 : (upd H9 q2 (.lst (G.map V.str))) q2 = some (.lst (G.map V.str)) := upd_same
          generalize upd H9 q2 (.lst (G.map V.str)) = H10 at *
          refine ⟨q2, G, rfl, SqL.of e10, by omega, fun zs2 p2 perm srt hp2 => ?_⟩
          have s11 : Same H10 (upd H10 p2 (.lst (zs2.map V.str))) := Same.new hp2
          have e11 : (upd H10 p2 (.lst (zs2.map V.str))) p2 = some (.lst (zs2.map V.str)) := upd_same
          generalize upd H10 p2 (.lst (zs2.map V.str)) = H11 at *
          have rise2 : Rising fs zs2 := ⟨srt, fun z => by rw [perm.mem_iff, ← memG, rise.all], perm.nodup_iff.mpr (run.nodup ok6)⟩
          obtain rfl := rise2.one rise
          have hh11 := (hh9.same s10).same s11
          have lz := f3 zs2 rise
          refine ⟨p2, rfl, ⟨_, SqL.of e11⟩, fun D hD => ?_⟩
          refine lc_list (K := K) (a := p2) (xs := zs2.map V.str) (fun n H12 => ∃ ws : List V, Same H11 H12 ∧ H12 D = some (.lst ws) ∧ Ents H12 ws ((zs2.take n).map fun z => (marksN (r.1 z), z))) ⟨[], Same.new hD, upd_same, .nil⟩ (fun n H12 _ ⟨_, s, _⟩ => SqL.of (s _ _ e11)) ?_ ?_
          · rintro n x H12 hn ⟨ws, s12, e12, en⟩
            rw [List.getElem?_map] at hn
            obtain ⟨z, hz, rfl⟩ := Option.map_eq_some_iff.mp hn
            have zG := (memG z).mp (List.mem_of_getElem? hz)
            have hh12 := hh11.same s12
            have lw := Paired.length en
            rw [List.length_map] at lw
            have lt := List.length_take_le' n zs2
            refine ⟨rfl, _, rfl, _, rfl, d8, _, rfl, dgetD hh12 zG, _, rfl, by show 2 ≤ sizeLine; decide, fun u hu => ?_⟩
            have s13 : Same H12 (upd H12 u (.tup [.ref (g8 z), .str z])) := Same.new hu
            have e13 : (upd H12 u (.tup [.ref (g8 z), .str z])) u = some (.tup [.ref (g8 z), .str z]) := upd_same
            generalize upd H12 u (.tup [.ref (g8 z), .str z]) = H13 at *
            have tf := TFr.lst (o := .lst (ws ++ [.ref u])) (s13 _ _ e12)
            refine ⟨ws, s13 _ _ e12, small1000 (by omega), ws ++ [.ref u], fun b o hb => by rw [upd_ne (ne_of_none hb hD)]; exact s13 _ _ (s12 b o hb), upd_same, ?_⟩
            rw [List.take_add_one, hz, List.map_append]
            exact Paired.app ((Ents.keep (TFr.same s13) en).keep tf) (Paired.one (EntV.keep tf ⟨.ref (g8 z), ⟨u, rfl, e13⟩, ⟨g8 z, rfl, s13 _ _ (hh12.each z zG)⟩⟩))
          · rintro H12 ⟨ws, s12, e12, en⟩
            rw [List.length_map, List.take_length] at en
            refine ⟨D, _, rfl, .inl ⟨SqL.of e12, fun p hp' => ?_⟩⟩
            have s13 : Same H12 (upd H12 p (.tup ws)) := Same.new hp'
            have e13 : (upd H12 p (.tup ws)) p = some (.tup ws) := upd_same
            generalize upd H12 p (.tup ws) = H13 at *
            have en13 := Ents.keep (TFr.same s13) en
            have eok : ∀ e ∈ zs2.map (fun z => (marksN (r.1 z), z)), EntOk e := fun e he => by
              obtain ⟨z, hz, rfl⟩ := List.mem_map.mp he
              exact ⟨marksN_ok _, wd z ((rise.all z).mp hz)⟩
            have s713 : Same H7 H13 := s8.trans (s9.trans (s10.trans (s11.trans (s12.trans s13))))
            have hh13 := (hh11.same s12).same s13
            have eq13 := s713 _ _ eq7
            have due13 : Paired (EntL H13) ys (booksW (rowsOf cells fs) zs2) := Paired.mapP due7 fun y es ⟨l, vs, e, h1, h2⟩ => ⟨l, vs, e, s713 _ _ h1, Ents.keep (TFr.same s713) h2⟩
            have tab13 := tab7.same s713
            have bs13 := (bs.same s7).same s713
            clear due8 eq8 hh8 hh9 hh11 due7 eq7 hta hp hfam hpc cm tab7 s12 e12 en s11 e11 s10 e10 s9
            refine ⟨_, rfl, _, rfl, ?_⟩
            intro x dx nx ndx nex
            have s14 : Same H13 (upd (upd H13 dx (.own x)) x (.ins CB dx [])) := fun b o e => by rw [upd_ne (ne_of_none e nx), upd_ne (ne_of_none e ndx)]; exact e
            refine ⟨x, dx, "within", p, .non, ws, zs2.map fun z => (marksN (r.1 z), z), rfl, upd_same, .inr (.inl rfl), .inl ⟨by decide +kernel, rfl⟩, s14 _ _ e13, Ents.keep (TFr.same s14) en13, eok, by rw [List.length_map]; omega, fun H15 hx kq => ⟨rfl, ?_⟩⟩
            have s15 : Same H13 H15 := fun b o h => kq b o (s14 _ _ h) (ne_of_none h nx)
            have en15 := Ents.keep (TFr.same s15) en13
            have bs15 := bs13.same s15
            have bx15 : BookSt CB H15 x "within" [] (zs2.map fun z => (marksN (r.1 z), z)) := ⟨⟨p, .non, ws, hx, s15 _ _ e13, en15, .inl ⟨by decide +kernel, rfl⟩⟩, eok, by rw [List.length_map]; omega⟩
            obtain ⟨p1, wt1, ys1, ⟨dz, hb1⟩, _⟩ := bs15.ex
            have hx' := hx
            obtain ⟨dw, hx1⟩ := hx'
            refine ⟨⟨bk, x, dz, dw, _, _, rfl, rfl, hb1, hx1, _, bs15, bx15⟩, fun H16 s16 => ?_⟩
            have s16 : Same H15 H16 := fun b o h => s16 b o h
            have s1316 := s15.trans s16
            refine ⟨_, rfl, ?_⟩
            refine iteF2 (by decide) ?_
            refine ⟨_, rfl, _, _, _, _, true, rfl, .own CB, CTb.is (s16 _ _ hb1), kit_own CB, _, rfl, ?_⟩
            refine iteF2 (by decide) ?_
            refine ⟨_, rfl, p, _, rfl, .inr (sqT (s1316 _ _ e13)), fun q3 hq3 => ?_⟩
            have s17 : Same H16 (upd H16 q3 (.lst ws)) := Same.new hq3
            have e17 : (upd H16 q3 (.lst ws)) q3 = some (.lst ws) := upd_same
            generalize upd H16 q3 (.lst ws) = H17 at *
            have s1317 := s1316.trans s17
            have inn := run.entries_in ok6 lfs rise ap
            have wok : ∀ es ∈ booksW (rowsOf cells fs) zs2, ∀ e ∈ es, PyData.strOk e.2 = true := fun es hes e he => by
              obtain ⟨nm, _, _⟩ := books_names hes
              have : e.2 ∈ zs2 := by rw [← nm]; exact List.mem_map.mpr ⟨e, he, rfl⟩
              exact (wd e.2 ((rise.all _).mp this)).strOk
            have due17 : DpAll K H17 ys ((booksW (rowsOf cells fs) zs2).map entsD) := dp_books (Paired.mapP due13 fun y es ⟨l, vs, e, h1, h2⟩ => ⟨l, vs, e, s1317 _ _ h1, Ents.keep (TFr.same s1317) h2⟩) wok
            refine ⟨_, rfl, entsD (zs2.map fun z => (marksN (r.1 z), z)), (booksW (rowsOf cells fs) zs2).map entsD, .lst (SqL.of e17) (dp_entsB (Ents.keep (TFr.same s1317) en13) (wok _ inn)), .lst (SqL.of (s1317 _ _ eq13)) due17, sh_entsL (wok _ inn), sh_books wok, _, rfl, ?_⟩
            have anyT : ((booksW (rowsOf cells fs) zs2).map entsD).any (fun z => PyData.eqv z (entsD (zs2.map fun z => (marksN (r.1 z), z)))) = true := List.any_eq_true.mpr ⟨_, List.mem_map.mpr ⟨_, inn, rfl⟩, eqv_same (sh_entsL (wok _ inn))⟩
            refine iteF2 (by rw [anyT]; decide) ?_
            have tab17 := tab13.same s1317
            have s417 : Same H4 H17 := s5.trans (s57.trans (s713.trans s1317))
            have pl17 := (pl.same s4).same s417
            refine ⟨_, rfl, _, rfl, bk, tb, fam, pf, "within", [], _, many, pc, cy, cells, fs, rfl, (bs15.same s16).same s17, .inr (.inl rfl), ⟨dt, s417 _ _ et⟩, pl17.fp, ⟨df, s417 _ _ ef⟩, pl17.cp, pl17.cm, pl.fok, lfs, fun H18 s18 => ?_⟩
            have hear : heardAll "within" [] (zs2.map fun z => (marksN (r.1 z), z)) cells = cells.map (heard "within" [] (zs2.map fun z => (marksN (r.1 z), z))) := rfl
            have ag : agree fs (heardAll "within" [] (zs2.map fun z => (marksN (r.1 z), z)) cells) cells.length = true := agree_all fun j hj => by
              obtain ⟨c, ec⟩ : ∃ c, cells[j]? = some c := ⟨_, List.getElem?_eq_getElem hj⟩
              obtain ⟨fo, ef⟩ : ∃ fo, fs[j]? = some fo := ⟨_, List.getElem?_eq_getElem (by omega)⟩
              cases fo with
              | none => left; rw [List.getD_eq_getElem?_getD, ef]; rfl
              | some z =>
                right
                have t := tops_heard [] (nodup_ends rise _) (ends_entry run ok6 lfs rise ap (rows_mem (r := (c, z)) |>.mpr ⟨j, ec, ef⟩))
                rw [List.getD_eq_getElem?_getD, List.getD_eq_getElem?_getD, ef, hear, List.getElem?_map, ec]
                show some z = heard "within" [] _ c
                exact t.symm
            rw [ag]
            refine ⟨_, _, rfl, _, rfl, ?_⟩
            refine iteT2 (by simp) ?_
            have tab18 := tab17.same s18
            obtain ⟨fam8, pf8, many8, pc8, cy8, hta8, hp8, hfam8, hpc8, cm8⟩ := tab18.ex
            refine ⟨_, rfl, tb, fam8, pf8, fs, many8, pc8, cy8, cells, rfl, hta8, hp8, hfam8, hpc8, cm8, ok6, few, lfs.symm, fun d19 G9 r9 g9 H19 run9 hh19 fd19 s19 => ?_⟩
            obtain ⟨rfl, rfl⟩ := run.one run9
            have hhE : HeldAt H19 d8 G (fun z => marksN (r.1 z)) g8 := ((hh13.same s1317).same s18).same s19
            refine ⟨_, rfl, d19, d8, _, _, rfl, rfl, hh19.at_, hhE.at_, alike_of hh19 hhE (run.nodup ok6) (run.nodup ok6) (fun _ => Iff.rfl) (fun _ _ => rfl), ?_⟩
            exact k _
      · exact absurd ap na
    · have na : ¬ ApartX G r.1 := fun ap => by
        have := ap z zF o oF e
        rw [this] at lt
        exact List.lt_irrefl _ lt
      rcases alt6 with ⟨ap, _⟩ | ⟨_, rfl⟩
      · exact absurd ap na
      · have pos : ¬ 0 < (booksW (rowsOf cells fs) zs).length := fun l => na (iff.mp l)
        have pos' : decide ((0 : Int) < ((ys.length : Nat) : Int)) = false := decide_eq_false (by omega)
        refine ⟨_, rfl, rfl, _, rfl, _, _, rfl, .inl ⟨_, SqL.of eq7, rfl⟩, _, _, rfl, rfl, rfl, _, rfl, ?_⟩
        refine iteF2 (by show ¬ (!decide ((V.bl !decide (V.non = V.non)) = V.bl (decide ((0 : Int) < ((ys.length : Nat) : Int))))) = true; rw [pos']; simp) ?_
        refine ⟨_, rfl, rfl, _, rfl, _, _, rfl, .inl ⟨_, SqL.of eq7, rfl⟩, _, _, rfl, rfl, rfl, _, rfl, ?_⟩
        refine iteF2 (by show ¬ (!decide (V.bl (decide (V.ref p = V.non)) = V.bl (decide ((0 : Int) < ((ys.length : Nat) : Int))))) = true; rw [pos']; simp) ?_
        refine ⟨_, rfl, rfl, _, rfl, ?_⟩
        refine iteT2 (by simp) ?_
        have dt : Dt (fun _ => False) H7 (.ref p) (.tuple [.list (r.2.map stkD), .str z, .str o]) := .tup (fun n => n) hp (.cons (.lst (fun n => n) hl (dt_stks0 hs)) (.cons (.str z) (.cons (.str o) .nil)))
        have bt := bar_true run ok6 lfs zF oF lt e
        refine ⟨_, rfl, _, rfl, _, v, many, pc, pf, cy, cells, fs, _, _, rfl, pl7, dt, BarShape.of3 (stk_all okT), fun H8 s8 => ?_⟩
        rw [bt]
        refine ⟨_, rfl, ?_⟩
        refine iteT2 (by decide) ?_
        refine ⟨_, rfl, _, rfl, _, tb, cells, fs, _, _, rfl, tab7.same s8, dt.fr (FrO.same s8), fun H9 s9 => ?_⟩
        rw [bt]
        exact ⟨_, _, rfl, k _⟩
end
end Xci

namespace Xci
open PySem L2
set_option maxHeartbeats 8000000 in
theorem all_mk {l : PySem.W.OpenLaw} {w : World} {K : PySem.W.Frag} {h : Heap} {mg : Str → Option Value} {fa f0 f1 f2 f3 f4 f5 f6 f7 f8 f9 f10 f11 f12 f13 f14 f15 f16 f17 f18 f19 f20 f21 f22 f23 f24 f25 f26 f27 f28 f29 f30 f31 f32 f33 f34 f35 f36 f37 f38 f39 f40 f41 f42 f43 f44 f45 f46 f47 f48 f49 f50 f51 f52 f53 f54 f55 f56 f57 f58 f59 f60 f61 f62 f63 C CF CB cdL tbL aM : Addr} (X : K.In h) (G : h.Ns mainGlobals mg) (hfa : mg "law" = some (.ref fa))
    {od0 an0 od1 an1 od2 an2 od3 an3 od4 an4 od5 an5 od6 an6 od7 an7 od8 an8 od9 an9 od10 an10 od11 an11 od12 an12 od13 an13 od14 an14 od15 an15 od16 an16 od17 an17 od18 an18 od19 an19 od20 an20 od21 an21 od22 an22 od23 an23 od24 an24 od25 an25 od26 an26 od27 an27 od28 an28 od29 an29 od30 an30 od31 an31 od32 an32 od33 an33 od34 an34 od35 an35 od36 an36 od37 an37 od38 an38 od39 an39 od40 an40 od41 an41 od42 an42 od43 an43 od44 an44 od45 an45 od46 an46 od47 an47 od48 an48 od49 an49 od50 an50 od51 an51 od52 an52 od53 an53 od54 an54 od55 an55 od56 an56 od57 an57 od58 an58 od59 an59 od60 an60 od61 an61 od62 an62 od63 an63 odM : Option Addr} {sl0 sl1 sl2 sl3 sl4 sl5 sl6 sl7 sl8 sl9 sl10 sl11 sl12 sl13 sl14 sl15 sl16 sl17 sl18 sl19 sl20 sl21 sl22 sl23 sl24 sl25 sl26 sl27 sl28 sl29 sl30 sl31 sl32 sl33 sl34 sl35 sl36 sl37 sl38 sl39 sl40 sl41 sl42 sl43 sl44 sl45 sl46 sl47 sl48 sl49 sl50 sl51 sl52 sl53 sl54 sl55 sl56 sl57 sl58 sl59 sl60 sl61 sl62 sl63 slM : Array (Option Value)} {oc0 kV0 dc0 pm0 cd0 ct0 oc1 kV1 dc1 pm1 cd1 ct1 oc2 kV2 dc2 pm2 cd2 ct2 oc3 kV3 dc3 pm3 cd3 ct3 oc4 kV4 dc4 pm4 cd4 ct4 oc5 kV5 dc5 pm5 cd5 ct5 oc6 kV6 dc6 pm6 cd6 ct6 oc7 kV7 dc7 pm7 cd7 ct7 oc8 kV8 dc8 pm8 cd8 ct8 oc9 kV9 dc9 pm9 cd9 ct9 oc10 kV10 dc10 pm10 cd10 ct10 oc11 kV11 dc11 pm11 cd11 ct11 oc12 kV12 dc12 pm12 cd12 ct12 oc13 kV13 dc13 pm13 cd13 ct13 oc14 kV14 dc14 pm14 cd14 ct14 oc15 kV15 dc15 pm15 cd15 ct15 oc16 kV16 dc16 pm16 cd16 ct16 oc17 kV17 dc17 pm17 cd17 ct17 oc18 kV18 dc18 pm18 cd18 ct18 oc19 kV19 dc19 pm19 cd19 ct19 oc20 kV20 dc20 pm20 cd20 ct20 oc21 kV21 dc21 pm21 cd21 ct21 oc22 kV22 dc22 pm22 cd22 ct22 oc23 kV23 dc23 pm23 cd23 ct23 oc24 kV24 dc24 pm24 cd24 ct24 oc25 kV25 dc25 pm25 cd25 ct25 oc26 kV26 dc26 pm26 cd26 ct26 oc27 kV27 dc27 pm27 cd27 ct27 oc28 kV28 dc28 pm28 cd28 ct28 oc29 kV29 dc29 pm29 cd29 ct29 oc30 kV30 dc30 pm30 cd30 ct30 oc31 kV31 dc31 pm31 cd31 ct31 oc32 kV32 dc32 pm32 cd32 ct32 oc33 kV33 dc33 pm33 cd33 ct33 oc34 kV34 dc34 pm34 cd34 ct34 oc35 kV35 dc35 pm35 cd35 ct35 oc36 kV36 dc36 pm36 cd36 ct36 oc37 kV37 dc37 pm37 cd37 ct37 oc38 kV38 dc38 pm38 cd38 ct38 oc39 kV39 dc39 pm39 cd39 ct39 oc40 kV40 dc40 pm40 cd40 ct40 oc41 kV41 dc41 pm41 cd41 ct41 oc42 kV42 dc42 pm42 cd42 ct42 oc43 kV43 dc43 pm43 cd43 ct43 oc44 kV44 dc44 pm44 cd44 ct44 oc45 kV45 dc45 pm45 cd45 ct45 oc46 kV46 dc46 pm46 ct46 oc47 kV47 dc47 pm47 cd47 ct47 oc48 kV48 dc48 pm48 cd48 ct48 oc49 kV49 dc49 pm49 cd49 ct49 oc50 kV50 dc50 pm50 cd50 ct50 oc51 kV51 dc51 pm51 cd51 ct51 oc52 kV52 dc52 pm52 cd52 ct52 oc53 kV53 dc53 pm53 cd53 ct53 oc54 kV54 dc54 pm54 cd54 ct54 oc55 kV55 dc55 pm55 cd55 ct55 oc56 kV56 dc56 pm56 cd56 ct56 oc57 kV57 dc57 pm57 cd57 ct57 oc58 kV58 dc58 pm58 cd58 ct58 oc59 kV59 dc59 pm59 cd59 ct59 oc60 kV60 dc60 pm60 cd60 ct60 oc61 kV61 dc61 pm61 cd61 ct61 oc62 kV62 dc62 pm62 cd62 ct62 oc63 kV63 dc63 pm63 cd63 ct63 : Value} {u0 u1 u2 u3 u4 u5 u6 w0 w1 w2 w3 : Tok} {nM : Nat}
    {ocT : Value} {odT : Option Addr} {vsT : Array Value} {slT : Array (Option Value)}
    (a0 : PySem.W.nsIn K mainGlobals "is_integer" = some (some (.ref f0))) (l0 : K.lookup f0 = some ⟨oc0, od0, .func (PySem.W.fnOf "is_integer" "is_integer" (defArgs sIsInteger) (defBody sIsInteger) (defScope sIsInteger) .none kV0 dc0 pm0 an0 cd0 ct0), sl0⟩) (c0 : PySem.W.codeIn K cd0 "is_integer" = true) (k0 : PySem.W.keepIn K (.ref f0) = true)
    (a1 : PySem.W.nsIn K mainGlobals "is_between" = some (some (.ref f1))) (l1 : K.lookup f1 = some ⟨oc1, od1, .func (PySem.W.fnOf "is_between" "is_between" (defArgs sIsBetween) (defBody sIsBetween) (defScope sIsBetween) .none kV1 dc1 pm1 an1 cd1 ct1), sl1⟩) (c1 : PySem.W.codeIn K cd1 "is_between" = true) (k1 : PySem.W.keepIn K (.ref f1) = true)
    (a2 : PySem.W.nsIn K mainGlobals "is_place" = some (some (.ref f2))) (l2 : K.lookup f2 = some ⟨oc2, od2, .func (PySem.W.fnOf "is_place" "is_place" (defArgs sIsPlace) (defBody sIsPlace) (defScope sIsPlace) .none kV2 dc2 pm2 an2 cd2 ct2), sl2⟩) (c2 : PySem.W.codeIn K cd2 "is_place" = true) (k2 : PySem.W.keepIn K (.ref f2) = true)
    (a3 : PySem.W.nsIn K mainGlobals "is_cell" = some (some (.ref f3))) (l3 : K.lookup f3 = some ⟨oc3, od3, .func (PySem.W.fnOf "is_cell" "is_cell" (defArgs sIsCell) (defBody sIsCell) (defScope sIsCell) .none kV3 dc3 pm3 an3 cd3 ct3), sl3⟩) (c3 : PySem.W.codeIn K cd3 "is_cell" = true) (k3 : PySem.W.keepIn K (.ref f3) = true)
    (a4 : PySem.W.nsIn K mainGlobals "is_form" = some (some (.ref f4))) (l4 : K.lookup f4 = some ⟨oc4, od4, .func (PySem.W.fnOf "is_form" "is_form" (defArgs sIsForm) (defBody sIsForm) (defScope sIsForm) .none kV4 dc4 pm4 an4 cd4 ct4), sl4⟩) (c4 : PySem.W.codeIn K cd4 "is_form" = true) (k4 : PySem.W.keepIn K (.ref f4) = true)
    (a5 : PySem.W.nsIn K mainGlobals "lies_within" = some (some (.ref f5))) (l5 : K.lookup f5 = some ⟨oc5, od5, .func (PySem.W.fnOf "lies_within" "lies_within" (defArgs sLiesWithin) (defBody sLiesWithin) (defScope sLiesWithin) .none kV5 dc5 pm5 an5 cd5 ct5), sl5⟩) (c5 : PySem.W.codeIn K cd5 "lies_within" = true) (k5 : PySem.W.keepIn K (.ref f5) = true)
    (a6 : PySem.W.nsIn K mainGlobals "bits" = some (some (.ref f6))) (l6 : K.lookup f6 = some ⟨oc6, od6, .func (PySem.W.fnOf "bits" "bits" (defArgs sBits) (defBody sBits) (defScope sBits) .none kV6 dc6 pm6 an6 cd6 ct6), sl6⟩) (c6 : PySem.W.codeIn K cd6 "bits" = true) (k6 : PySem.W.keepIn K (.ref f6) = true)
    (a7 : PySem.W.nsIn K mainGlobals "marks_of" = some (some (.ref f7))) (l7 : K.lookup f7 = some ⟨oc7, od7, .func (PySem.W.fnOf "marks_of" "marks_of" (defArgs sMarksOf) (defBody sMarksOf) (defScope sMarksOf) .none kV7 dc7 pm7 an7 cd7 ct7), sl7⟩) (c7 : PySem.W.codeIn K cd7 "marks_of" = true) (k7 : PySem.W.keepIn K (.ref f7) = true)
    (a8 : PySem.W.nsIn K mainGlobals "_are_forms" = some (some (.ref f8))) (l8 : K.lookup f8 = some ⟨oc8, od8, .func (PySem.W.fnOf "_are_forms" "_are_forms" (defArgs sAreForms) (defBody sAreForms) (defScope sAreForms) .none kV8 dc8 pm8 an8 cd8 ct8), sl8⟩) (c8 : PySem.W.codeIn K cd8 "_are_forms" = true) (k8 : PySem.W.keepIn K (.ref f8) = true)
    (a9 : PySem.W.nsIn K mainGlobals "_unlike" = some (some (.ref f9))) (l9 : K.lookup f9 = some ⟨oc9, od9, .func (PySem.W.fnOf "_unlike" "_unlike" (defArgs sUnlike) (defBody sUnlike) (defScope sUnlike) .none kV9 dc9 pm9 an9 cd9 ct9), sl9⟩) (c9 : PySem.W.codeIn K cd9 "_unlike" = true) (k9 : PySem.W.keepIn K (.ref f9) = true)
    (a10 : PySem.W.nsIn K mainGlobals "spoken" = some (some (.ref f10))) (l10 : K.lookup f10 = some ⟨oc10, od10, .func (PySem.W.fnOf "spoken" "spoken" (defArgs sSpoken) (defBody sSpoken) (defScope sSpoken) .none kV10 dc10 pm10 an10 cd10 ct10), sl10⟩) (c10 : PySem.W.codeIn K cd10 "spoken" = true) (k10 : PySem.W.keepIn K (.ref f10) = true)
    (a11 : PySem.W.nsIn K mainGlobals "is_spoken" = some (some (.ref f11))) (l11 : K.lookup f11 = some ⟨oc11, od11, .func (PySem.W.fnOf "is_spoken" "is_spoken" (defArgs sIsSpoken) (defBody sIsSpoken) (defScope sIsSpoken) .none kV11 dc11 pm11 an11 cd11 ct11), sl11⟩) (c11 : PySem.W.codeIn K cd11 "is_spoken" = true) (k11 : PySem.W.keepIn K (.ref f11) = true)
    (a12 : PySem.W.nsIn K mainGlobals "is_entry" = some (some (.ref f12))) (l12 : K.lookup f12 = some ⟨oc12, od12, .func (PySem.W.fnOf "is_entry" "is_entry" (defArgs sIsEntry) (defBody sIsEntry) (defScope sIsEntry) .none kV12 dc12 pm12 an12 cd12 ct12), sl12⟩) (c12 : PySem.W.codeIn K cd12 "is_entry" = true) (k12 : PySem.W.keepIn K (.ref f12) = true)
    (a13 : PySem.W.nsIn K mainGlobals "_are_entries" = some (some (.ref f13))) (l13 : K.lookup f13 = some ⟨oc13, od13, .func (PySem.W.fnOf "_are_entries" "_are_entries" (defArgs sAreEntries) (defBody sAreEntries) (defScope sAreEntries) .none kV13 dc13 pm13 an13 cd13 ct13), sl13⟩) (c13 : PySem.W.codeIn K cd13 "_are_entries" = true) (k13 : PySem.W.keepIn K (.ref f13) = true)
    (a14 : PySem.W.nsIn K mainGlobals "_are_weights" = some (some (.ref f14))) (l14 : K.lookup f14 = some ⟨oc14, od14, .func (PySem.W.fnOf "_are_weights" "_are_weights" (defArgs sAreWeights) (defBody sAreWeights) (defScope sAreWeights) .none kV14 dc14 pm14 an14 cd14 ct14), sl14⟩) (c14 : PySem.W.codeIn K cd14 "_are_weights" = true) (k14 : PySem.W.keepIn K (.ref f14) = true)
    (a15 : PySem.W.nsIn K mainGlobals "fitting" = some (some (.ref f15))) (l15 : K.lookup f15 = some ⟨oc15, od15, .func (PySem.W.fnOf "fitting" "fitting" (defArgs sFitting) (defBody sFitting) (defScope sFitting) .none kV15 dc15 pm15 an15 cd15 ct15), sl15⟩) (c15 : PySem.W.codeIn K cd15 "fitting" = true) (k15 : PySem.W.keepIn K (.ref f15) = true)
    (a16 : PySem.W.nsIn K mainGlobals "rank" = some (some (.ref f16))) (l16 : K.lookup f16 = some ⟨oc16, od16, .func (PySem.W.fnOf "rank" "rank" (defArgs sRank) (defBody sRank) (defScope sRank) .none kV16 dc16 pm16 an16 cd16 ct16), sl16⟩) (c16 : PySem.W.codeIn K cd16 "rank" = true) (k16 : PySem.W.keepIn K (.ref f16) = true)
    (a17 : PySem.W.nsIn K mainGlobals "_highest" = some (some (.ref f17))) (l17 : K.lookup f17 = some ⟨oc17, od17, .func (PySem.W.fnOf "_highest" "_highest" (defArgs sHighest) (defBody sHighest) (defScope sHighest) .none kV17 dc17 pm17 an17 cd17 ct17), sl17⟩) (c17 : PySem.W.codeIn K cd17 "_highest" = true) (k17 : PySem.W.keepIn K (.ref f17) = true)
    (a18 : PySem.W.nsIn K mainGlobals "speaking" = some (some (.ref f18))) (l18 : K.lookup f18 = some ⟨oc18, od18, .func (PySem.W.fnOf "speaking" "speaking" (defArgs sSpeaking) (defBody sSpeaking) (defScope sSpeaking) .none kV18 dc18 pm18 an18 cd18 ct18), sl18⟩) (c18 : PySem.W.codeIn K cd18 "speaking" = true) (k18 : PySem.W.keepIn K (.ref f18) = true)
    (a19 : PySem.W.nsIn K mainGlobals "_holds_all" = some (some (.ref f19))) (l19 : K.lookup f19 = some ⟨oc19, od19, .func (PySem.W.fnOf "_holds_all" "_holds_all" (defArgs sHoldsAll) (defBody sHoldsAll) (defScope sHoldsAll) .none kV19 dc19 pm19 an19 cd19 ct19), sl19⟩) (c19 : PySem.W.codeIn K cd19 "_holds_all" = true) (k19 : PySem.W.keepIn K (.ref f19) = true)
    (a20 : PySem.W.nsIn K mainGlobals "form_among" = some (some (.ref f20))) (l20 : K.lookup f20 = some ⟨oc20, od20, .func (PySem.W.fnOf "form_among" "form_among" (defArgs sFormAmong) (defBody sFormAmong) (defScope sFormAmong) .none kV20 dc20 pm20 an20 cd20 ct20), sl20⟩) (c20 : PySem.W.codeIn K cd20 "form_among" = true) (k20 : PySem.W.keepIn K (.ref f20) = true)
    (a21 : PySem.W.nsIn K mainGlobals "_form_at" = some (some (.ref f21))) (l21 : K.lookup f21 = some ⟨oc21, od21, .func (PySem.W.fnOf "_form_at" "_form_at" (defArgs sFormAt) (defBody sFormAt) (defScope sFormAt) .none kV21 dc21 pm21 an21 cd21 ct21), sl21⟩) (c21 : PySem.W.codeIn K cd21 "_form_at" = true) (k21 : PySem.W.keepIn K (.ref f21) = true)
    (a22 : PySem.W.nsIn K mainGlobals "makes" = some (some (.ref f22))) (l22 : K.lookup f22 = some ⟨oc22, od22, .func (PySem.W.fnOf "makes" "makes" (defArgs sMakes) (defBody sMakes) (defScope sMakes) .none kV22 dc22 pm22 an22 cd22 ct22), sl22⟩) (c22 : PySem.W.codeIn K cd22 "makes" = true) (k22 : PySem.W.keepIn K (.ref f22) = true)
    (a23 : PySem.W.nsIn K mainGlobals "cell_bits" = some (some (.ref f23))) (l23 : K.lookup f23 = some ⟨oc23, od23, .func (PySem.W.fnOf "cell_bits" "cell_bits" (defArgs sCellBits) (defBody sCellBits) (defScope sCellBits) .none kV23 dc23 pm23 an23 cd23 ct23), sl23⟩) (c23 : PySem.W.codeIn K cd23 "cell_bits" = true) (k23 : PySem.W.keepIn K (.ref f23) = true)
    (a24 : PySem.W.nsIn K mainGlobals "common_bits" = some (some (.ref f24))) (l24 : K.lookup f24 = some ⟨oc24, od24, .func (PySem.W.fnOf "common_bits" "common_bits" (defArgs sCommonBits) (defBody sCommonBits) (defScope sCommonBits) .none kV24 dc24 pm24 an24 cd24 ct24), sl24⟩) (c24 : PySem.W.codeIn K cd24 "common_bits" = true) (k24 : PySem.W.keepIn K (.ref f24) = true)
    (a25 : PySem.W.nsIn K mainGlobals "shrink" = some (some (.ref f25))) (l25 : K.lookup f25 = some ⟨oc25, od25, .func (PySem.W.fnOf "shrink" "shrink" (defArgs sShrink) (defBody sShrink) (defScope sShrink) .none kV25 dc25 pm25 an25 cd25 ct25), sl25⟩) (c25 : PySem.W.codeIn K cd25 "shrink" = true) (k25 : PySem.W.keepIn K (.ref f25) = true)
    (a26 : PySem.W.nsIn K mainGlobals "_is_struck" = some (some (.ref f26))) (l26 : K.lookup f26 = some ⟨oc26, od26, .func (PySem.W.fnOf "_is_struck" "_is_struck" (defArgs sIsStruck) (defBody sIsStruck) (defScope sIsStruck) .none kV26 dc26 pm26 an26 cd26 ct26), sl26⟩) (c26 : PySem.W.codeIn K cd26 "_is_struck" = true) (k26 : PySem.W.keepIn K (.ref f26) = true)
    (a27 : PySem.W.nsIn K mainGlobals "shrunk" = some (some (.ref f27))) (l27 : K.lookup f27 = some ⟨oc27, od27, .func (PySem.W.fnOf "shrunk" "shrunk" (defArgs sShrunk) (defBody sShrunk) (defScope sShrunk) .none kV27 dc27 pm27 an27 cd27 ct27), sl27⟩) (c27 : PySem.W.codeIn K cd27 "shrunk" = true) (k27 : PySem.W.keepIn K (.ref f27) = true)
    (a28 : PySem.W.nsIn K mainGlobals "strikes" = some (some (.ref f28))) (l28 : K.lookup f28 = some ⟨oc28, od28, .func (PySem.W.fnOf "strikes" "strikes" (defArgs sStrikes) (defBody sStrikes) (defScope sStrikes) .none kV28 dc28 pm28 an28 cd28 ct28), sl28⟩) (c28 : PySem.W.codeIn K cd28 "strikes" = true) (k28 : PySem.W.keepIn K (.ref f28) = true)
    (a29 : PySem.W.nsIn K mainGlobals "within_book" = some (some (.ref f29))) (l29 : K.lookup f29 = some ⟨oc29, od29, .func (PySem.W.fnOf "within_book" "within_book" (defArgs sWithinBook) (defBody sWithinBook) (defScope sWithinBook) .none kV29 dc29 pm29 an29 cd29 ct29), sl29⟩) (c29 : PySem.W.codeIn K cd29 "within_book" = true) (k29 : PySem.W.keepIn K (.ref f29) = true)
    (a30 : PySem.W.nsIn K mainGlobals "_first_equal" = some (some (.ref f30))) (l30 : K.lookup f30 = some ⟨oc30, od30, .func (PySem.W.fnOf "_first_equal" "_first_equal" (defArgs sFirstEqual) (defBody sFirstEqual) (defScope sFirstEqual) .none kV30 dc30 pm30 an30 cd30 ct30), sl30⟩) (c30 : PySem.W.codeIn K cd30 "_first_equal" = true) (k30 : PySem.W.keepIn K (.ref f30) = true)
    (a31 : PySem.W.nsIn K mainGlobals "shrunk_bar" = some (some (.ref f31))) (l31 : K.lookup f31 = some ⟨oc31, od31, .func (PySem.W.fnOf "shrunk_bar" "shrunk_bar" (defArgs sShrunkBar) (defBody sShrunkBar) (defScope sShrunkBar) .none kV31 dc31 pm31 an31 cd31 ct31), sl31⟩) (c31 : PySem.W.codeIn K cd31 "shrunk_bar" = true) (k31 : PySem.W.keepIn K (.ref f31) = true)
    (a32 : PySem.W.nsIn K mainGlobals "is_shrunk_bar" = some (some (.ref f32))) (l32 : K.lookup f32 = some ⟨oc32, od32, .func (PySem.W.fnOf "is_shrunk_bar" "is_shrunk_bar" (defArgs sIsShrunkBar) (defBody sIsShrunkBar) (defScope sIsShrunkBar) .none kV32 dc32 pm32 an32 cd32 ct32), sl32⟩) (c32 : PySem.W.codeIn K cd32 "is_shrunk_bar" = true) (k32 : PySem.W.keepIn K (.ref f32) = true)
    (a33 : PySem.W.nsIn K mainGlobals "_left_behind" = some (some (.ref f33))) (l33 : K.lookup f33 = some ⟨oc33, od33, .func (PySem.W.fnOf "_left_behind" "_left_behind" (defArgs sLeftBehind) (defBody sLeftBehind) (defScope sLeftBehind) .none kV33 dc33 pm33 an33 cd33 ct33), sl33⟩) (c33 : PySem.W.codeIn K cd33 "_left_behind" = true) (k33 : PySem.W.keepIn K (.ref f33) = true)
    (a34 : PySem.W.nsIn K mainGlobals "_names_strike" = some (some (.ref f34))) (l34 : K.lookup f34 = some ⟨oc34, od34, .func (PySem.W.fnOf "_names_strike" "_names_strike" (defArgs sNamesStrike) (defBody sNamesStrike) (defScope sNamesStrike) .none kV34 dc34 pm34 an34 cd34 ct34), sl34⟩) (c34 : PySem.W.codeIn K cd34 "_names_strike" = true) (k34 : PySem.W.keepIn K (.ref f34) = true)
    (a35 : PySem.W.nsIn K mainGlobals "_can_strike" = some (some (.ref f35))) (l35 : K.lookup f35 = some ⟨oc35, od35, .func (PySem.W.fnOf "_can_strike" "_can_strike" (defArgs sCanStrike) (defBody sCanStrike) (defScope sCanStrike) .none kV35 dc35 pm35 an35 cd35 ct35), sl35⟩) (c35 : PySem.W.codeIn K cd35 "_can_strike" = true) (k35 : PySem.W.keepIn K (.ref f35) = true)
    (a36 : PySem.W.nsIn K mainGlobals "_are_cells" = some (some (.ref f36))) (l36 : K.lookup f36 = some ⟨oc36, od36, .func (PySem.W.fnOf "_are_cells" "_are_cells" (defArgs sAreCells) (defBody sAreCells) (defScope sAreCells) .none kV36 dc36 pm36 an36 cd36 ct36), sl36⟩) (c36 : PySem.W.codeIn K cd36 "_are_cells" = true) (k36 : PySem.W.keepIn K (.ref f36) = true)
    (a37 : PySem.W.nsIn K mainGlobals "_law_source" = some (some (.ref f37))) (l37 : K.lookup f37 = some ⟨oc37, od37, .func (PySem.W.fnOf "_law_source" "_law_source" (defArgs sLawSource) (defBody sLawSource) (defScope sLawSource) .none kV37 dc37 pm37 an37 cd37 ct37), sl37⟩) (c37 : PySem.W.codeIn K cd37 "_law_source" = true) (k37 : PySem.W.keepIn K (.ref f37) = true)
    (a38 : PySem.W.nsIn K mainGlobals "_law_roll" = some (some (.ref f38))) (l38 : K.lookup f38 = some ⟨oc38, od38, .func (PySem.W.fnOf "_law_roll" "_law_roll" (defArgs sLawRoll) (defBody sLawRoll) (defScope sLawRoll) .none kV38 dc38 pm38 an38 cd38 ct38), sl38⟩) (c38 : PySem.W.codeIn K cd38 "_law_roll" = true) (k38 : PySem.W.keepIn K (.ref f38) = true)
    (a39 : PySem.W.nsIn K mainGlobals "_law_fresh" = some (some (.ref f39))) (l39 : K.lookup f39 = some ⟨oc39, od39, .func (PySem.W.fnOf "_law_fresh" "_law_fresh" (defArgs sLawFresh) (defBody sLawFresh) (defScope sLawFresh) .none kV39 dc39 pm39 an39 cd39 ct39), sl39⟩) (c39 : PySem.W.codeIn K cd39 "_law_fresh" = true) (k39 : PySem.W.keepIn K (.ref f39) = true)
    (a40 : PySem.W.nsIn K mainGlobals "_law_lots" = some (some (.ref f40))) (l40 : K.lookup f40 = some ⟨oc40, od40, .func (PySem.W.fnOf "_law_lots" "_law_lots" (defArgs sLawLots) (defBody sLawLots) (defScope sLawLots) .none kV40 dc40 pm40 an40 cd40 ct40), sl40⟩) (c40 : PySem.W.codeIn K cd40 "_law_lots" = true) (k40 : PySem.W.keepIn K (.ref f40) = true)
    (a41 : PySem.W.nsIn K mainGlobals "_law_lies" = some (some (.ref f41))) (l41 : K.lookup f41 = some ⟨oc41, od41, .func (PySem.W.fnOf "_law_lies" "_law_lies" (defArgs sLawLies) (defBody sLawLies) (defScope sLawLies) .none kV41 dc41 pm41 an41 cd41 ct41), sl41⟩) (c41 : PySem.W.codeIn K cd41 "_law_lies" = true) (k41 : PySem.W.keepIn K (.ref f41) = true)
    (a42 : PySem.W.nsIn K mainGlobals "_law_common" = some (some (.ref f42))) (l42 : K.lookup f42 = some ⟨oc42, od42, .func (PySem.W.fnOf "_law_common" "_law_common" (defArgs sLawCommon) (defBody sLawCommon) (defScope sLawCommon) .none kV42 dc42 pm42 an42 cd42 ct42), sl42⟩) (c42 : PySem.W.codeIn K cd42 "_law_common" = true) (k42 : PySem.W.keepIn K (.ref f42) = true)
    (a43 : PySem.W.nsIn K mainGlobals "_law_family" = some (some (.ref f43))) (l43 : K.lookup f43 = some ⟨oc43, od43, .func (PySem.W.fnOf "_law_family" "_law_family" (defArgs sLawFamily) (defBody sLawFamily) (defScope sLawFamily) .none kV43 dc43 pm43 an43 cd43 ct43), sl43⟩) (c43 : PySem.W.codeIn K cd43 "_law_family" = true) (k43 : PySem.W.keepIn K (.ref f43) = true)
    (a44 : PySem.W.nsIn K mainGlobals "_law_words" = some (some (.ref f44))) (l44 : K.lookup f44 = some ⟨oc44, od44, .func (PySem.W.fnOf "_law_words" "_law_words" (defArgs sLawWords) (defBody sLawWords) (defScope sLawWords) .none kV44 dc44 pm44 an44 cd44 ct44), sl44⟩) (c44 : PySem.W.codeIn K cd44 "_law_words" = true) (k44 : PySem.W.keepIn K (.ref f44) = true)
    (a45 : PySem.W.nsIn K mainGlobals "_law_entry" = some (some (.ref f45))) (l45 : K.lookup f45 = some ⟨oc45, od45, .func (PySem.W.fnOf "_law_entry" "_law_entry" (defArgs sLawEntry) (defBody sLawEntry) (defScope sLawEntry) .none kV45 dc45 pm45 an45 cd45 ct45), sl45⟩) (c45 : PySem.W.codeIn K cd45 "_law_entry" = true) (k45 : PySem.W.keepIn K (.ref f45) = true)
    (a46 : PySem.W.nsIn K mainGlobals "_law_forms" = some (some (.ref f46))) (l46 : K.lookup f46 = some ⟨oc46, od46, .func (PySem.W.fnOf "_law_forms" "_law_forms" (defArgs sLawForms) (defBody sLawForms) (defScope sLawForms) .none kV46 dc46 pm46 an46 (.ref cdL) ct46), sl46⟩) (c46 : PySem.W.codeIn K (.ref cdL) "_law_forms" = true) (k46 : PySem.W.keepIn K (.ref f46) = true)
    (a47 : PySem.W.nsIn K mainGlobals "_law_plot" = some (some (.ref f47))) (l47 : K.lookup f47 = some ⟨oc47, od47, .func (PySem.W.fnOf "_law_plot" "_law_plot" (defArgs sLawPlot) (defBody sLawPlot) (defScope sLawPlot) .none kV47 dc47 pm47 an47 cd47 ct47), sl47⟩) (c47 : PySem.W.codeIn K cd47 "_law_plot" = true) (k47 : PySem.W.keepIn K (.ref f47) = true)
    (a48 : PySem.W.nsIn K mainGlobals "_law_table" = some (some (.ref f48))) (l48 : K.lookup f48 = some ⟨oc48, od48, .func (PySem.W.fnOf "_law_table" "_law_table" (defArgs sLawTable) (defBody sLawTable) (defScope sLawTable) .none kV48 dc48 pm48 an48 cd48 ct48), sl48⟩) (c48 : PySem.W.codeIn K cd48 "_law_table" = true) (k48 : PySem.W.keepIn K (.ref f48) = true)
    (a49 : PySem.W.nsIn K mainGlobals "_law_spoken" = some (some (.ref f49))) (l49 : K.lookup f49 = some ⟨oc49, od49, .func (PySem.W.fnOf "_law_spoken" "_law_spoken" (defArgs sLawSpoken) (defBody sLawSpoken) (defScope sLawSpoken) .none kV49 dc49 pm49 an49 cd49 ct49), sl49⟩) (c49 : PySem.W.codeIn K cd49 "_law_spoken" = true) (k49 : PySem.W.keepIn K (.ref f49) = true)
    (a50 : PySem.W.nsIn K mainGlobals "_law_commons" = some (some (.ref f50))) (l50 : K.lookup f50 = some ⟨oc50, od50, .func (PySem.W.fnOf "_law_commons" "_law_commons" (defArgs sLawCommons) (defBody sLawCommons) (defScope sLawCommons) .none kV50 dc50 pm50 an50 cd50 ct50), sl50⟩) (c50 : PySem.W.codeIn K cd50 "_law_commons" = true) (k50 : PySem.W.keepIn K (.ref f50) = true)
    (a51 : PySem.W.nsIn K mainGlobals "_law_ends" = some (some (.ref f51))) (l51 : K.lookup f51 = some ⟨oc51, od51, .func (PySem.W.fnOf "_law_ends" "_law_ends" (defArgs sLawEnds) (defBody sLawEnds) (defScope sLawEnds) .none kV51 dc51 pm51 an51 cd51 ct51), sl51⟩) (c51 : PySem.W.codeIn K cd51 "_law_ends" = true) (k51 : PySem.W.keepIn K (.ref f51) = true)
    (a52 : PySem.W.nsIn K mainGlobals "_law_struck" = some (some (.ref f52))) (l52 : K.lookup f52 = some ⟨oc52, od52, .func (PySem.W.fnOf "_law_struck" "_law_struck" (defArgs sLawStruck) (defBody sLawStruck) (defScope sLawStruck) .none kV52 dc52 pm52 an52 cd52 ct52), sl52⟩) (c52 : PySem.W.codeIn K cd52 "_law_struck" = true) (k52 : PySem.W.keepIn K (.ref f52) = true)
    (a53 : PySem.W.nsIn K mainGlobals "_law_is_bar" = some (some (.ref f53))) (l53 : K.lookup f53 = some ⟨oc53, od53, .func (PySem.W.fnOf "_law_is_bar" "_law_is_bar" (defArgs sLawIsBar) (defBody sLawIsBar) (defScope sLawIsBar) .none kV53 dc53 pm53 an53 cd53 ct53), sl53⟩) (c53 : PySem.W.codeIn K cd53 "_law_is_bar" = true) (k53 : PySem.W.keepIn K (.ref f53) = true)
    (a54 : PySem.W.nsIn K mainGlobals "_law_flag" = some (some (.ref f54))) (l54 : K.lookup f54 = some ⟨oc54, od54, .func (PySem.W.fnOf "_law_flag" "_law_flag" (defArgs sLawFlag) (defBody sLawFlag) (defScope sLawFlag) .none kV54 dc54 pm54 an54 cd54 ct54), sl54⟩) (c54 : PySem.W.codeIn K cd54 "_law_flag" = true) (k54 : PySem.W.keepIn K (.ref f54) = true)
    (a55 : PySem.W.nsIn K mainGlobals "_law_holder" = some (some (.ref f55))) (l55 : K.lookup f55 = some ⟨oc55, od55, .func (PySem.W.fnOf "_law_holder" "_law_holder" (defArgs sLawHolder) (defBody sLawHolder) (defScope sLawHolder) .none kV55 dc55 pm55 an55 cd55 ct55), sl55⟩) (c55 : PySem.W.codeIn K cd55 "_law_holder" = true) (k55 : PySem.W.keepIn K (.ref f55) = true)
    (a56 : PySem.W.nsIn K mainGlobals "_law_within_makes" = some (some (.ref f56))) (l56 : K.lookup f56 = some ⟨oc56, od56, .func (PySem.W.fnOf "_law_within_makes" "_law_within_makes" (defArgs sLawWithinMakes) (defBody sLawWithinMakes) (defScope sLawWithinMakes) .none kV56 dc56 pm56 an56 cd56 ct56), sl56⟩) (c56 : PySem.W.codeIn K cd56 "_law_within_makes" = true) (k56 : PySem.W.keepIn K (.ref f56) = true)
    (a57 : PySem.W.nsIn K mainGlobals "_law_choices" = some (some (.ref f57))) (l57 : K.lookup f57 = some ⟨oc57, od57, .func (PySem.W.fnOf "_law_choices" "_law_choices" (defArgs sLawChoices) (defBody sLawChoices) (defScope sLawChoices) .none kV57 dc57 pm57 an57 cd57 ct57), sl57⟩) (c57 : PySem.W.codeIn K cd57 "_law_choices" = true) (k57 : PySem.W.keepIn K (.ref f57) = true)
    (a58 : PySem.W.nsIn K mainGlobals "_law_within_books" = some (some (.ref f58))) (l58 : K.lookup f58 = some ⟨oc58, od58, .func (PySem.W.fnOf "_law_within_books" "_law_within_books" (defArgs sLawWithinBooks) (defBody sLawWithinBooks) (defScope sLawWithinBooks) .none kV58 dc58 pm58 an58 cd58 ct58), sl58⟩) (c58 : PySem.W.codeIn K cd58 "_law_within_books" = true) (k58 : PySem.W.keepIn K (.ref f58) = true)
    (a59 : PySem.W.nsIn K mainGlobals "law" = some (some (.ref f59))) (l59 : K.lookup f59 = some ⟨oc59, od59, .func (PySem.W.fnOf "law" "law" (defArgs sLaw) (defBody sLaw) (defScope sLaw) .none kV59 dc59 pm59 an59 cd59 ct59), sl59⟩) (c59 : PySem.W.codeIn K cd59 "law" = true) (k59 : PySem.W.keepIn K (.ref f59) = true)
    (a60 : PySem.W.findIn K (.ref C) "__init__" = some (some (.ref f60))) (i60 : PySem.W.isFn K (.ref f60) = true) (l60 : K.lookup f60 = some ⟨oc60, od60, .func (PySem.W.fnOf "__init__" "Table.__init__" (defArgs sTableInit) (defBody sTableInit) (defScope sTableInit) .none kV60 dc60 pm60 an60 cd60 ct60), sl60⟩) (c60 : PySem.W.codeIn K cd60 "Table.__init__" = true) (k60 : PySem.W.keepIn K (.ref f60) = true)
    (aCC : PySem.W.nsIn K mainGlobals "Table" = some (some (.ref C))) (pgCC : PySem.W.plainGet K C Str.empty = true) (hdCC : PySem.W.hasDictIn K C = true) (poCC : PySem.W.plainOver K C = true) (saCC : PySem.W.findIn K (.ref C) "__setattr__" = some (some (.builtin "object.__setattr__"))) (mkCC : PySem.W.makesIn K C = true) (kcCC : PySem.W.keepIn K (.ref C) = true)
    (nC_family : PySem.W.findIn K (.ref C) "family" = some none)
    (nC_forms : PySem.W.findIn K (.ref C) "forms" = some none)
    (a61 : PySem.W.findIn K (.ref CF) "__init__" = some (some (.ref f61))) (i61 : PySem.W.isFn K (.ref f61) = true) (l61 : K.lookup f61 = some ⟨oc61, od61, .func (PySem.W.fnOf "__init__" "Family.__init__" (defArgs sFamilyInit) (defBody sFamilyInit) (defScope sFamilyInit) .none kV61 dc61 pm61 an61 cd61 ct61), sl61⟩) (c61 : PySem.W.codeIn K cd61 "Family.__init__" = true) (k61 : PySem.W.keepIn K (.ref f61) = true)
    (aCCF : PySem.W.nsIn K mainGlobals "Family" = some (some (.ref CF))) (pgCCF : PySem.W.plainGet K CF Str.empty = true) (hdCCF : PySem.W.hasDictIn K CF = true) (poCCF : PySem.W.plainOver K CF = true) (saCCF : PySem.W.findIn K (.ref CF) "__setattr__" = some (some (.builtin "object.__setattr__"))) (mkCCF : PySem.W.makesIn K CF = true) (kcCCF : PySem.W.keepIn K (.ref CF) = true)
    (nCF_many : PySem.W.findIn K (.ref CF) "many" = some none)
    (nCF_cells : PySem.W.findIn K (.ref CF) "cells" = some none)
    (a62 : PySem.W.findIn K (.ref CB) "__init__" = some (some (.ref f62))) (i62 : PySem.W.isFn K (.ref f62) = true) (l62 : K.lookup f62 = some ⟨oc62, od62, .func (PySem.W.fnOf "__init__" "Book.__init__" (defArgs sBookInit) (defBody sBookInit) (defScope sBookInit) .none kV62 dc62 pm62 an62 cd62 ct62), sl62⟩) (c62 : PySem.W.codeIn K cd62 "Book.__init__" = true) (k62 : PySem.W.keepIn K (.ref f62) = true)
    (aCCB : PySem.W.nsIn K mainGlobals "Book" = some (some (.ref CB))) (pgCCB : PySem.W.plainGet K CB Str.empty = true) (hdCCB : PySem.W.hasDictIn K CB = true) (poCCB : PySem.W.plainOver K CB = true) (saCCB : PySem.W.findIn K (.ref CB) "__setattr__" = some (some (.builtin "object.__setattr__"))) (mkCCB : PySem.W.makesIn K CB = true) (kcCCB : PySem.W.keepIn K (.ref CB) = true)
    (nCB_manner : PySem.W.findIn K (.ref CB) "manner" = some none)
    (nCB_entries : PySem.W.findIn K (.ref CB) "entries" = some none)
    (nCB_weights : PySem.W.findIn K (.ref CB) "weights" = some none)
    (a63 : PySem.W.findIn K (.ref CB) "__eq__" = some (some (.ref f63))) (i63 : PySem.W.isFn K (.ref f63) = true) (l63 : K.lookup f63 = some ⟨oc63, od63, .func (PySem.W.fnOf "__eq__" "Book.__eq__" (defArgs sBookEq) (defBody sBookEq) (defScope sBookEq) .none kV63 dc63 pm63 an63 cd63 ct63), sl63⟩) (c63 : PySem.W.codeIn K cd63 "Book.__eq__" = true) (k63 : PySem.W.keepIn K (.ref f63) = true)
    (z_comb : PySem.W.nsIn K mainGlobals "combinations" = some (some (.type "itertools.combinations")))
    (hACB : PySem.W.findIn K (.ref CB) "__class__" = some (some (.builtin "object.__class__")))
    (hMCB : PySem.W.mroIn K CB (.type "object") = some true)
    (hN : PySem.W.specialIn K (.builtin "object.__class__") "__get__" = some (some (.builtin "getset_descriptor.__get__")))
    (hT : PySem.W.takesIn K (.builtin "object.__class__") = some true)
    (hNe : PySem.W.findIn K (.ref CB) "__ne__" = some (some (.builtin "object.__ne__")))
    (z_len : PySem.W.nsIn K mainGlobals "len" = some none)
    (z_int : PySem.W.nsIn K mainGlobals "int" = some none)
    (z_abs : PySem.W.nsIn K mainGlobals "abs" = some none)
    (z_list : PySem.W.nsIn K mainGlobals "list" = some none)
    (z_tuple : PySem.W.nsIn K mainGlobals "tuple" = some none)
    (z_range : PySem.W.nsIn K mainGlobals "range" = some none)
    (z_min : PySem.W.nsIn K mainGlobals "min" = some none)
    (z_isinstance : PySem.W.nsIn K mainGlobals "isinstance" = some none)
    (z_enumerate : PySem.W.nsIn K mainGlobals "enumerate" = some none)
    (z_bool : PySem.W.nsIn K mainGlobals "bool" = some none)
    (z_str : PySem.W.nsIn K mainGlobals "str" = some none)
    (z_all : PySem.W.nsIn K mainGlobals "all" = some none)
    (z_any : PySem.W.nsIn K mainGlobals "any" = some none)
    (z_sum : PySem.W.nsIn K mainGlobals "sum" = some none)
    (z_max : PySem.W.nsIn K mainGlobals "max" = some none)
    (z_sorted : PySem.W.nsIn K mainGlobals "sorted" = some none)
    (z_zip : PySem.W.nsIn K mainGlobals "zip" = some none)
    (z_set : PySem.W.nsIn K mainGlobals "set" = some none)
    (g_LONGEST_FORM : PySem.W.nsIn K mainGlobals "LONGEST_FORM" = some (some (.int 8 u0)))
    (g_MOST_FORMS : PySem.W.nsIn K mainGlobals "MOST_FORMS" = some (some (.int 12 u1)))
    (g_MOST_MARKS : PySem.W.nsIn K mainGlobals "MOST_MARKS" = some (some (.int 6 u2)))
    (g_MOST_CELLS : PySem.W.nsIn K mainGlobals "MOST_CELLS" = some (some (.int 24 u3)))
    (g_MARKS : PySem.W.nsIn K mainGlobals "MARKS" = some (some (.int 6 u4)))
    (g_MOST_ENTRIES : PySem.W.nsIn K mainGlobals "MOST_ENTRIES" = some (some (.int 40 u5)))
    (g_MOST_WEIGHT : PySem.W.nsIn K mainGlobals "MOST_WEIGHT" = some (some (.int 1000000 u6)))
    (aM0 : PySem.W.nsIn K mainGlobals "MANNERS" = some (some (.ref aM))) (lM : K.lookup aM = some ⟨.type "tuple", odM, .seq #[.str "row" w0, .str "within" w1, .str "weights" w2, .str "most" w3] nM, slM⟩)
    (coT : K.lookup cdL = some ⟨ocT, odT, .fields vsT, slT⟩) (cvT : vsT[11]? = some (.ref tbL)) (nPT : K.lookup tbL = none) :
    ∃ (c T : Addr) (fd : FuncData), PySem.W.tabIn K "_law_forms" = some (c, T) ∧ K.lookup T = none ∧ (∀ (s : Shared) (v : Value), BindsTo s fd ⟨[v], []⟩ [("script", v)]) ∧ ∀ base : Heap, K.In base → base.Ns mainGlobals mg → LamX.TabB base mg c T → FnOk l.prog w K mg base CX0 9 fa fd ["script"] (spLawT T K) := by
  have e := hfa.symm.trans (PySem.W.mg_of X G a59)
  cases e
  have T : Txt mg := ⟨PySem.W.mg_none_of X G z_len, PySem.W.mg_none_of X G z_int, PySem.W.mg_none_of X G z_abs, PySem.W.mg_none_of X G z_list, PySem.W.mg_none_of X G z_tuple, PySem.W.mg_none_of X G z_range, PySem.W.mg_none_of X G z_min, PySem.W.mg_none_of X G z_isinstance, PySem.W.mg_none_of X G z_enumerate, PySem.W.mg_none_of X G z_bool, PySem.W.mg_none_of X G z_str, PySem.W.mg_none_of X G z_all, PySem.W.mg_none_of X G z_any, PySem.W.mg_none_of X G z_sum, PySem.W.mg_none_of X G z_max, PySem.W.mg_none_of X G z_sorted, PySem.W.mg_none_of X G z_zip, PySem.W.mg_none_of X G z_set⟩
  have cF : FormCst mg := ⟨u0, PySem.W.mg_of X G g_LONGEST_FORM⟩
  have cT : TabCst mg := ⟨u1, PySem.W.mg_of X G g_MOST_FORMS⟩
  have cM : FamCst mg := ⟨u2, u3, PySem.W.mg_of X G g_MOST_MARKS, PySem.W.mg_of X G g_MOST_CELLS⟩
  have TT : TabTxt K mg C := ⟨⟨pgCC, hdCC, poCC, saCC⟩, nC_family, nC_forms, PySem.W.mg_of X G aCC⟩
  have FT : FamTxt K mg CF := ⟨⟨pgCCF, hdCCF, poCCF, saCCF⟩, nCF_many, nCF_cells, PySem.W.mg_of X G aCCF⟩
  have cB : Cst mg := ⟨u0, u4, u5, u6, PySem.W.mg_of X G g_LONGEST_FORM, PySem.W.mg_of X G g_MARKS, PySem.W.mg_of X G g_MOST_ENTRIES, PySem.W.mg_of X G g_MOST_WEIGHT⟩
  have BT : BkTxt K mg CB aM := ⟨⟨pgCCB, hdCCB, poCCB, saCCB⟩, nCB_manner, nCB_entries, nCB_weights, PySem.W.mg_of X G aCCB, PySem.W.mg_of X G aM0, fun H => .inr ⟨_, _, _, lM, rfl, rfl, (by show 4 ≤ sizeLine; decide), .cons ⟨_, rfl⟩ (.cons ⟨_, rfl⟩ (.cons ⟨_, rfl⟩ (.cons ⟨_, rfl⟩ (.nil))))⟩⟩
  have TCm : mg "combinations" = some (.type "itertools.combinations") := PySem.W.mg_of X G z_comb
  have CTb : ClsTy K CB := ⟨⟨pgCCB, hdCCB, poCCB, saCCB⟩, hACB, hN, hT, hMCB⟩
  have F_is_integer := fun_mk (st := sIsInteger) l0 c0 k0
  have b_is_integer := F_is_integer.binds (ps := ["thing"]) fun _ _ _ _ _ _ us hl => match us, hl with | [_], _ => rfl
  have F_is_between := fun_mk (st := sIsBetween) l1 c1 k1
  have b_is_between := F_is_between.binds (ps := ["low", "high", "thing"]) fun _ _ _ _ _ _ us hl => match us, hl with | [_, _, _], _ => rfl
  have F_is_place := fun_mk (st := sIsPlace) l2 c2 k2
  have b_is_place := F_is_place.binds (ps := ["rows", "thing"]) fun _ _ _ _ _ _ us hl => match us, hl with | [_, _], _ => rfl
  have F_is_cell := fun_mk (st := sIsCell) l3 c3 k3
  have b_is_cell := F_is_cell.binds (ps := ["many", "thing"]) fun _ _ _ _ _ _ us hl => match us, hl with | [_, _], _ => rfl
  have F_is_form := fun_mk (st := sIsForm) l4 c4 k4
  have b_is_form := F_is_form.binds (ps := ["thing"]) fun _ _ _ _ _ _ us hl => match us, hl with | [_], _ => rfl
  have F_lies_within := fun_mk (st := sLiesWithin) l5 c5 k5
  have b_lies_within := F_lies_within.binds (ps := ["inner", "outer"]) fun _ _ _ _ _ _ us hl => match us, hl with | [_, _], _ => rfl
  have F_bits := fun_mk (st := sBits) l6 c6 k6
  have b_bits := F_bits.binds (ps := ["marks"]) fun _ _ _ _ _ _ us hl => match us, hl with | [_], _ => rfl
  have F_marks_of := fun_mk (st := sMarksOf) l7 c7 k7
  have b_marks_of := F_marks_of.binds (ps := ["lot"]) fun _ _ _ _ _ _ us hl => match us, hl with | [_], _ => rfl
  have F_are_forms := fun_mk (st := sAreForms) l8 c8 k8
  have b_are_forms := F_are_forms.binds (ps := ["length", "thing"]) fun _ _ _ _ _ _ us hl => match us, hl with | [_, _], _ => rfl
  have F_unlike := fun_mk (st := sUnlike) l9 c9 k9
  have b_unlike := F_unlike.binds (ps := ["forms"]) fun _ _ _ _ _ _ us hl => match us, hl with | [_], _ => rfl
  have F_spoken := fun_mk (st := sSpoken) l10 c10 k10
  have b_spoken := F_spoken.binds (ps := ["table"]) fun _ _ _ _ _ _ us hl => match us, hl with | [_], _ => rfl
  have F_is_spoken := fun_mk (st := sIsSpoken) l11 c11 k11
  have b_is_spoken := F_is_spoken.binds (ps := ["table", "thing"]) fun _ _ _ _ _ _ us hl => match us, hl with | [_, _], _ => rfl
  have F_is_entry := fun_mk (st := sIsEntry) l12 c12 k12
  have b_is_entry := F_is_entry.binds (ps := ["thing"]) fun _ _ _ _ _ _ us hl => match us, hl with | [_], _ => rfl
  have F_are_entries := fun_mk (st := sAreEntries) l13 c13 k13
  have b_are_entries := F_are_entries.binds (ps := ["thing"]) fun _ _ _ _ _ _ us hl => match us, hl with | [_], _ => rfl
  have F_are_weights := fun_mk (st := sAreWeights) l14 c14 k14
  have b_are_weights := F_are_weights.binds (ps := ["manner", "thing"]) fun _ _ _ _ _ _ us hl => match us, hl with | [_, _], _ => rfl
  have F_fitting := fun_mk (st := sFitting) l15 c15 k15
  have b_fitting := F_fitting.binds (ps := ["book", "cell"]) fun _ _ _ _ _ _ us hl => match us, hl with | [_, _], _ => rfl
  have F_rank := fun_mk (st := sRank) l16 c16 k16
  have b_rank := F_rank.binds (ps := ["book", "number"]) fun _ _ _ _ _ _ us hl => match us, hl with | [_, _], _ => rfl
  have F_highest := fun_mk (st := sHighest) l17 c17 k17
  have b_highest := F_highest.binds (ps := ["book", "numbers"]) fun _ _ _ _ _ _ us hl => match us, hl with | [_, _], _ => rfl
  have F_speaking := fun_mk (st := sSpeaking) l18 c18 k18
  have b_speaking := F_speaking.binds (ps := ["book", "numbers"]) fun _ _ _ _ _ _ us hl => match us, hl with | [_, _], _ => rfl
  have F_holds_all := fun_mk (st := sHoldsAll) l19 c19 k19
  have b_holds_all := F_holds_all.binds (ps := ["book", "number", "numbers"]) fun _ _ _ _ _ _ us hl => match us, hl with | [_, _, _], _ => rfl
  have F_form_among := fun_mk (st := sFormAmong) l20 c20 k20
  have b_form_among := F_form_among.binds (ps := ["book", "numbers"]) fun _ _ _ _ _ _ us hl => match us, hl with | [_, _], _ => rfl
  have F_form_at := fun_mk (st := sFormAt) l21 c21 k21
  have b_form_at := F_form_at.binds (ps := ["book", "cell"]) fun _ _ _ _ _ _ us hl => match us, hl with | [_, _], _ => rfl
  have F_makes := fun_mk (st := sMakes) l22 c22 k22
  have b_makes := F_makes.binds (ps := ["book", "table"]) fun _ _ _ _ _ _ us hl => match us, hl with | [_, _], _ => rfl
  have F_cell_bits := fun_mk (st := sCellBits) l23 c23 k23
  have b_cell_bits := F_cell_bits.binds (ps := ["family"]) fun _ _ _ _ _ _ us hl => match us, hl with | [_], _ => rfl
  have F_common_bits := fun_mk (st := sCommonBits) l24 c24 k24
  have b_common_bits := F_common_bits.binds (ps := ["lots", "forms"]) fun _ _ _ _ _ _ us hl => match us, hl with | [_, _], _ => rfl
  have F_shrink := fun_mk (st := sShrink) l25 c25 k25
  have b_shrink := F_shrink.binds (ps := ["lots", "forms"]) fun _ _ _ _ _ _ us hl => match us, hl with | [_, _], _ => rfl
  have F_is_struck := fun_mk (st := sIsStruck) l26 c26 k26
  have b_is_struck := F_is_struck.binds (ps := ["left", "form", "other", "lot"]) fun _ _ _ _ _ _ us hl => match us, hl with | [_, _, _, _], _ => rfl
  have F_shrunk := fun_mk (st := sShrunk) l27 c27 k27
  have b_shrunk := F_shrunk.binds (ps := ["table"]) fun _ _ _ _ _ _ us hl => match us, hl with | [_], _ => rfl
  have F_strikes := fun_mk (st := sStrikes) l28 c28 k28
  have b_strikes := F_strikes.binds (ps := ["table"]) fun _ _ _ _ _ _ us hl => match us, hl with | [_], _ => rfl
  have F_within_book := fun_mk (st := sWithinBook) l29 c29 k29
  have b_within_book := F_within_book.binds (ps := ["table"]) fun _ _ _ _ _ _ us hl => match us, hl with | [_], _ => rfl
  have F_first_equal := fun_mk (st := sFirstEqual) l30 c30 k30
  have b_first_equal := F_first_equal.binds (ps := ["table"]) fun _ _ _ _ _ _ us hl => match us, hl with | [_], _ => rfl
  have F_shrunk_bar := fun_mk (st := sShrunkBar) l31 c31 k31
  have b_shrunk_bar := F_shrunk_bar.binds (ps := ["table"]) fun _ _ _ _ _ _ us hl => match us, hl with | [_], _ => rfl
  have F_is_shrunk_bar := fun_mk (st := sIsShrunkBar) l32 c32 k32
  have b_is_shrunk_bar := F_is_shrunk_bar.binds (ps := ["table", "thing"]) fun _ _ _ _ _ _ us hl => match us, hl with | [_, _], _ => rfl
  have F_left_behind := fun_mk (st := sLeftBehind) l33 c33 k33
  have b_left_behind := F_left_behind.binds (ps := ["table", "done"]) fun _ _ _ _ _ _ us hl => match us, hl with | [_, _], _ => rfl
  have F_names_strike := fun_mk (st := sNamesStrike) l34 c34 k34
  have b_names_strike := F_names_strike.binds (ps := ["table", "thing"]) fun _ _ _ _ _ _ us hl => match us, hl with | [_, _], _ => rfl
  have F_can_strike := fun_mk (st := sCanStrike) l35 c35 k35
  have b_can_strike := F_can_strike.binds (ps := ["table", "left"]) fun _ _ _ _ _ _ us hl => match us, hl with | [_, _], _ => rfl
  have F_are_cells := fun_mk (st := sAreCells) l36 c36 k36
  have b_are_cells := F_are_cells.binds (ps := ["many", "thing"]) fun _ _ _ _ _ _ us hl => match us, hl with | [_, _], _ => rfl
  have F_law_source := fun_mk (st := sLawSource) l37 c37 k37
  have b_law_source := F_law_source.binds (ps := ["script"]) fun _ _ _ _ _ _ us hl => match us, hl with | [_], _ => rfl
  have F_law_roll := fun_mk (st := sLawRoll) l38 c38 k38
  have b_law_roll := F_law_roll.binds (ps := ["source", "many"]) fun _ _ _ _ _ _ us hl => match us, hl with | [_, _], _ => rfl
  have F_law_fresh := fun_mk (st := sLawFresh) l39 c39 k39
  have b_law_fresh := F_law_fresh.binds (ps := ["source", "signs", "taken"]) fun _ _ _ _ _ _ us hl => match us, hl with | [_, _, _], _ => rfl
  have F_law_lots := fun_mk (st := sLawLots) l40 c40 k40
  have b_law_lots := F_law_lots.binds (ps := ["items"]) fun _ _ _ _ _ _ us hl => match us, hl with | [_], _ => rfl
  have F_law_lies := fun_mk (st := sLawLies) l41 c41 k41
  have b_law_lies := F_law_lies.binds (ps := ["one", "other"]) fun _ _ _ _ _ _ us hl => match us, hl with | [_, _], _ => rfl
  have F_law_common := fun_mk (st := sLawCommon) l42 c42 k42
  have b_law_common := F_law_common.binds (ps := ["cells"]) fun _ _ _ _ _ _ us hl => match us, hl with | [_], _ => rfl
  have F_law_family := fun_mk (st := sLawFamily) l43 c43 k43
  have b_law_family := F_law_family.binds (ps := ["source", "most", "marks"]) fun _ _ _ _ _ _ us hl => match us, hl with | [_, _, _], _ => rfl
  have F_law_words := fun_mk (st := sLawWords) l44 c44 k44
  have b_law_words := F_law_words.binds (ps := ["source", "many"]) fun _ _ _ _ _ _ us hl => match us, hl with | [_, _], _ => rfl
  have F_law_entry := fun_mk (st := sLawEntry) l45 c45 k45
  have b_law_entry := F_law_entry.binds (ps := ["source", "cells", "word"]) fun _ _ _ _ _ _ us hl => match us, hl with | [_, _, _], _ => rfl
  have F_law_forms := fun_mk (st := sLawForms) l46 c46 k46
  have b_law_forms := F_law_forms.binds (ps := ["source", "cells", "most"]) fun _ _ _ _ _ _ us hl => match us, hl with | [_, _, _], _ => rfl
  have F_law_plot := fun_mk (st := sLawPlot) l47 c47 k47
  have b_law_plot := F_law_plot.binds (ps := ["source", "most", "forms", "marks"]) fun _ _ _ _ _ _ us hl => match us, hl with | [_, _, _, _], _ => rfl
  have F_law_table := fun_mk (st := sLawTable) l48 c48 k48
  have b_law_table := F_law_table.binds (ps := ["plot"]) fun _ _ _ _ _ _ us hl => match us, hl with | [_], _ => rfl
  have F_law_spoken := fun_mk (st := sLawSpoken) l49 c49 k49
  have b_law_spoken := F_law_spoken.binds (ps := ["plot"]) fun _ _ _ _ _ _ us hl => match us, hl with | [_], _ => rfl
  have F_law_commons := fun_mk (st := sLawCommons) l50 c50 k50
  have b_law_commons := F_law_commons.binds (ps := ["plot"]) fun _ _ _ _ _ _ us hl => match us, hl with | [_], _ => rfl
  have F_law_ends := fun_mk (st := sLawEnds) l51 c51 k51
  have b_law_ends := F_law_ends.binds (ps := ["plot", "held"]) fun _ _ _ _ _ _ us hl => match us, hl with | [_, _], _ => rfl
  have F_law_struck := fun_mk (st := sLawStruck) l52 c52 k52
  have b_law_struck := F_law_struck.binds (ps := ["held", "strike"]) fun _ _ _ _ _ _ us hl => match us, hl with | [_, _], _ => rfl
  have F_law_is_bar := fun_mk (st := sLawIsBar) l53 c53 k53
  have b_law_is_bar := F_law_is_bar.binds (ps := ["plot", "thing"]) fun _ _ _ _ _ _ us hl => match us, hl with | [_, _], _ => rfl
  have F_law_flag := fun_mk (st := sLawFlag) l54 c54 k54
  have b_law_flag := F_law_flag.binds (ps := ["told", "due"]) fun _ _ _ _ _ _ us hl => match us, hl with | [_, _], _ => rfl
  have F_law_holder := fun_mk (st := sLawHolder) l55 c55 k55
  have b_law_holder := F_law_holder.binds (ps := ["entries", "cell"]) fun _ _ _ _ _ _ us hl => match us, hl with | [_, _], _ => rfl
  have F_law_within_makes := fun_mk (st := sLawWithinMakes) l56 c56 k56
  have b_law_within_makes := F_law_within_makes.binds (ps := ["plot", "entries"]) fun _ _ _ _ _ _ us hl => match us, hl with | [_, _], _ => rfl
  have F_law_choices := fun_mk (st := sLawChoices) l57 c57 k57
  have b_law_choices := F_law_choices.binds (ps := ["lists"]) fun _ _ _ _ _ _ us hl => match us, hl with | [_], _ => rfl
  have F_law_within_books := fun_mk (st := sLawWithinBooks) l58 c58 k58
  have b_law_within_books := F_law_within_books.binds (ps := ["plot"]) fun _ _ _ _ _ _ us hl => match us, hl with | [_], _ => rfl
  have F_law := fun_mk (st := sLaw) l59 c59 k59
  have b_law := F_law.binds (ps := ["script"]) fun _ _ _ _ _ _ us hl => match us, hl with | [_], _ => rfl
  have F_initC := fun_mk (st := sTableInit) l60 c60 k60
  have b_initC := F_initC.binds (ps := ["self", "family", "forms"]) fun _ _ _ _ _ _ us hl => match us, hl with | [_, _, _], _ => rfl
  have F_initCF := fun_mk (st := sFamilyInit) l61 c61 k61
  have b_initCF := F_initCF.binds (ps := ["self", "many", "cells"]) fun _ _ _ _ _ _ us hl => match us, hl with | [_, _, _], _ => rfl
  have F_initCB := fun_mk (st := sBookInit) l62 c62 k62
  have b_initCB := F_initCB.binds (ps := ["self", "manner", "entries", "weights"]) fun _ _ _ _ _ _ us hl => match us, hl with | [_, _, _, _], _ => rfl
  have F_bookEq := fun_mk (st := sBookEq) l63 c63 k63
  have b_bookEq := F_bookEq.binds (ps := ["self", "other"]) fun _ _ _ _ _ _ us hl => match us, hl with | [_, _], _ => rfl
  have FC := funC_mk (st := sLawForms) l46 c46
  refine ⟨cdL, tbL, PySem.W.fnOf "law" "law" (defArgs sLaw) (defBody sLaw) (defScope sLaw) .none kV59 dc59 pm59 an59 cd59 ct59, tab_is a46 l46 rfl coT cvT, nPT, fun s v => .of_eq rfl, fun base _ _ TB => ?_⟩
  have HSo : Has l.prog w K mg base "_law_source" ["script"] 1 (spSource K) := ⟨f37, _, ok_source F_law_source T, PySem.W.mg_of X G a37, k37, b_law_source⟩
  have HR : Has l.prog w K mg base "_law_roll" ["source", "many"] 1 spRoll := ⟨f38, _, ok_roll F_law_roll T, PySem.W.mg_of X G a38, k38, b_law_roll⟩
  have HFr : Has l.prog w K mg base "_law_fresh" ["source", "signs", "taken"] 2 spFresh := ⟨f39, _, ok_fresh F_law_fresh T HR, PySem.W.mg_of X G a39, k39, b_law_fresh⟩
  have HWs : Has l.prog w K mg base "_law_words" ["source", "many"] 3 spWordsS := ⟨f44, _, ok_wordsS F_law_words T HFr, PySem.W.mg_of X G a44, k44, b_law_words⟩
  have HLi : Has l.prog w K mg base "_law_lies" ["one", "other"] 1 spIn := ⟨f41, _, ok_liesS F_law_lies T, PySem.W.mg_of X G a41, k41, b_law_lies⟩
  have HL : Has l.prog w K mg base "_law_lots" ["items"] 1 (spLots K) := ⟨f40, _, ok_lots F_law_lots, PySem.W.mg_of X G a40, k40, b_law_lots⟩
  have HFa : Has l.prog w K mg base "_law_family" ["source", "most", "marks"] 2 spFamilyS := ⟨f43, _, ok_familyS F_law_family T HR HL, PySem.W.mg_of X G a43, k43, b_law_family⟩
  have HEn : Has l.prog w K mg base "_law_entry" ["source", "cells", "word"] 2 spEntryS := ⟨f45, _, ok_entryS F_law_entry T HR, PySem.W.mg_of X G a45, k45, b_law_entry⟩
  have HFo : Has l.prog w K mg base "_law_forms" ["source", "cells", "most"] 4 (spFormsS tbL) := ⟨f46, _, ok_formsS FC TB T HR HWs HEn HLi, PySem.W.mg_of X G a46, k46, b_law_forms⟩
  have HPl : Has l.prog w K mg base "_law_plot" ["source", "most", "forms", "marks"] 5 (spPlot tbL (fun H => LamX.TabS H tbL lamName) Fr3) := ⟨f47, _, ok_plotS F_law_plot HFa HFo, PySem.W.mg_of X G a47, k47, b_law_plot⟩
  have HI : Has l.prog w K mg base "is_integer" ["thing"] 1 spIsInteger := ⟨f0, _, ok_integer F_is_integer T, PySem.W.mg_of X G a0, k0, b_is_integer⟩
  have HB : Has l.prog w K mg base "is_between" ["low", "high", "thing"] 2 spBetween := ⟨f1, _, ok_between F_is_between HI, PySem.W.mg_of X G a1, k1, b_is_between⟩
  have HC : Has l.prog w K mg base "is_cell" ["many", "thing"] 3 spIsCell := ⟨f3, _, ok_cell F_is_cell T HB, PySem.W.mg_of X G a3, k3, b_is_cell⟩
  have HF : Has l.prog w K mg base "is_form" ["thing"] 1 spIsForm := ⟨f4, _, ok_form F_is_form T cF, PySem.W.mg_of X G a4, k4, b_is_form⟩
  have HU : Has l.prog w K mg base "_unlike" ["forms"] 1 spUnlike := ⟨f9, _, ok_unlike F_unlike T, PySem.W.mg_of X G a9, k9, b_unlike⟩
  have HAf : Has l.prog w K mg base "_are_forms" ["length", "thing"] 2 spAreForms := ⟨f8, _, ok_areForms F_are_forms T cT HF HU, PySem.W.mg_of X G a8, k8, b_are_forms⟩
  have HAc : Has l.prog w K mg base "_are_cells" ["many", "thing"] 4 spAreCells := ⟨f36, _, ok_areCells F_are_cells T T.set cM HC, PySem.W.mg_of X G a36, k36, b_are_cells⟩
  have HFm : HasC l.prog w K mg base "Family" CF ["self", "many", "cells"] 5 (spFam CF) := ⟨f61, _, ok_fam F_initCF T cM FT HB HAc, ⟨mkCCF, a61, i61, kcCCF⟩, PySem.W.mg_of X G aCCF, b_initCF⟩
  have HTb0 : HasC l.prog w K mg base "Table" C ["self", "family", "forms"] 3 (spTab CF C) := ⟨f60, _, ok_table F_initC T TT FT HAf, ⟨mkCC, a60, i60, kcCC⟩, PySem.W.mg_of X G aCC, b_initC⟩
  have HTb : Has l.prog w K mg base "_law_table" ["plot"] 7 (spPlotTable CF C) := ⟨f48, _, ok_plotTable F_law_table T HFm HTb0, PySem.W.mg_of X G a48, k48, b_law_table⟩
  have HSp : Has l.prog w K mg base "_law_spoken" ["plot"] 1 spPlotSpoken := ⟨f49, _, ok_plotSpoken F_law_spoken T T.set, PySem.W.mg_of X G a49, k49, b_law_spoken⟩
  have HCo : Has l.prog w K mg base "_law_common" ["cells"] 1 spLawCommon := ⟨f42, _, ok_commonS F_law_common T, PySem.W.mg_of X G a42, k42, b_law_common⟩
  have HCm : Has l.prog w K mg base "_law_commons" ["plot"] 2 spPlotCommons := ⟨f50, _, ok_commonsS F_law_commons T HSp HCo, PySem.W.mg_of X G a50, k50, b_law_commons⟩
  have HBi : Has l.prog w K mg base "bits" ["marks"] 1 spBits := ⟨f6, _, ok_bits F_bits T, PySem.W.mg_of X G a6, k6, b_bits⟩
  have HCb : Has l.prog w K mg base "cell_bits" ["family"] 2 (spCellBits CF) := ⟨f23, _, ok_cellBits F_cell_bits FT HBi, PySem.W.mg_of X G a23, k23, b_cell_bits⟩
  have HCo1 : Has l.prog w K mg base "common_bits" ["lots", "forms"] 1 spCommonO := ⟨f24, _, ok_commonBits F_common_bits T, PySem.W.mg_of X G a24, k24, b_common_bits⟩
  have HIk : Has l.prog w K mg base "_is_struck" ["left", "form", "other", "lot"] 1 spStruck := ⟨f26, _, ok_struck F_is_struck, PySem.W.mg_of X G a26, k26, b_is_struck⟩
  have HSh : Has l.prog w K mg base "shrink" ["lots", "forms"] 2 spShrinkO := ⟨f25, _, ok_shrink F_shrink T HCo1 HIk, PySem.W.mg_of X G a25, k25, b_shrink⟩
  have HMo : Has l.prog w K mg base "marks_of" ["lot"] 1 spMarksOf := ⟨f7, _, ok_marksOf F_marks_of T, PySem.W.mg_of X G a7, k7, b_marks_of⟩
  have HSk : Has l.prog w K mg base "shrunk" ["table"] 3 (spShrunk CF C) := ⟨f27, _, ok_shrunk F_shrunk TT FT HCb HSh HMo, PySem.W.mg_of X G a27, k27, b_shrunk⟩
  have HSt : Has l.prog w K mg base "strikes" ["table"] 3 (spStrikes CF C) := ⟨f28, _, ok_strikes F_strikes TT FT HCb HSh, PySem.W.mg_of X G a28, k28, b_strikes⟩
  have HSpk : Has l.prog w K mg base "spoken" ["table"] 2 (spSpoken C) := ⟨f10, _, ok_spoken F_spoken T TT HU, PySem.W.mg_of X G a10, k10, b_spoken⟩
  have HFe : Has l.prog w K mg base "_first_equal" ["table"] 4 (spFirstEqualX CF C) := ⟨f30, _, ok_firstEqual F_first_equal T TCm HSk HSpk, PySem.W.mg_of X G a30, k30, b_first_equal⟩
  have HSb : Has l.prog w K mg base "shrunk_bar" ["table"] 5 (spShrunkBar CF C) := ⟨f31, _, ok_shrunkBar F_shrunk_bar HFe HSt, PySem.W.mg_of X G a31, k31, b_shrunk_bar⟩
  have HId : Has l.prog w K mg base "is_integer" ["thing"] 1 spIntD := ⟨f0, _, okd_integer F_is_integer T, PySem.W.mg_of X G a0, k0, b_is_integer⟩
  have HBd : Has l.prog w K mg base "is_between" ["low", "high", "thing"] 2 spBtwD := ⟨f1, _, okd_between F_is_between HId, PySem.W.mg_of X G a1, k1, b_is_between⟩
  have HIsp : Has l.prog w K mg base "is_spoken" ["table", "thing"] 1 (spSpokenD C) := ⟨f11, _, okd_spoken F_is_spoken T TT, PySem.W.mg_of X G a11, k11, b_is_spoken⟩
  have HPc : Has l.prog w K mg base "is_place" ["rows", "thing"] 3 spPlaceD := ⟨f2, _, okd_place F_is_place T HBd, PySem.W.mg_of X G a2, k2, b_is_place⟩
  have HNs : Has l.prog w K mg base "_names_strike" ["table", "thing"] 4 (spNamesD C) := ⟨f34, _, okd_names F_names_strike T TT HIsp HPc, PySem.W.mg_of X G a34, k34, b_names_strike⟩
  have HIkR : Has l.prog w K mg base "_is_struck" ["left", "form", "other", "lot"] 1 spStruckR := ⟨f26, _, ok_struckR F_is_struck, PySem.W.mg_of X G a26, k26, b_is_struck⟩
  have HLbh : Has l.prog w K mg base "_left_behind" ["table", "done"] 5 (spLeftD CF C) := ⟨f33, _, okd_left F_left_behind T TT FT HCb HCo1 HNs HIkR, PySem.W.mg_of X G a33, k33, b_left_behind⟩
  have HCs : Has l.prog w K mg base "_can_strike" ["table", "left"] 3 (spCanStrike CF C) := ⟨f35, _, okd_can F_can_strike T TT FT HCb HIkR, PySem.W.mg_of X G a35, k35, b_can_strike⟩
  have HIsb : Has l.prog w K mg base "is_shrunk_bar" ["table", "thing"] 6 (spBarD CF C) := ⟨f32, _, okd_bar F_is_shrunk_bar T HIsp HLbh HCs, PySem.W.mg_of X G a32, k32, b_is_shrunk_bar⟩
  have HEt : Has l.prog w K mg base "is_entry" ["thing"] 4 spIsEntry := ⟨f12, _, ok_entry F_is_entry T cB HC HF, PySem.W.mg_of X G a12, k12, b_is_entry⟩
  have HAe : Has l.prog w K mg base "_are_entries" ["thing"] 5 spAreEntries := ⟨f13, _, ok_are F_are_entries T cB HEt, PySem.W.mg_of X G a13, k13, b_are_entries⟩
  have HWe : Has l.prog w K mg base "_are_weights" ["manner", "thing"] 3 spAreWeights := ⟨f14, _, ok_weights F_are_weights T cB HB, PySem.W.mg_of X G a14, k14, b_are_weights⟩
  have HBk : HasC l.prog w K mg base "Book" CB ["self", "manner", "entries", "weights"] 6 (spBook CB) := ⟨f62, _, ok_book F_initCB T BT HAe HWe, ⟨mkCCB, a62, i62, kcCCB⟩, PySem.W.mg_of X G aCCB, b_initCB⟩
  have HWb : Has l.prog w K mg base "within_book" ["table"] 8 (spWithinX CF C CB) := ⟨f29, _, ok_withinBook F_within_book T HFe HSk HSpk HBk, PySem.W.mg_of X G a29, k29, b_within_book⟩
  have HLw : Has l.prog w K mg base "lies_within" ["inner", "outer"] 1 spLies := ⟨f5, _, ok_lies F_lies_within, PySem.W.mg_of X G a5, k5, b_lies_within⟩
  have HFi : Has l.prog w K mg base "fitting" ["book", "cell"] 4 (spFitting CB) := ⟨f15, _, ok_fitting F_fitting T cB BT HC HLw, PySem.W.mg_of X G a15, k15, b_fitting⟩
  have HRk : Has l.prog w K mg base "rank" ["book", "number"] 1 (spRank CB) := ⟨f16, _, ok_rank F_rank T BT, PySem.W.mg_of X G a16, k16, b_rank⟩
  have HHi : Has l.prog w K mg base "_highest" ["book", "numbers"] 2 (spHighest CB) := ⟨f17, _, ok_highest F_highest T HRk, PySem.W.mg_of X G a17, k17, b_highest⟩
  have HHl : Has l.prog w K mg base "_holds_all" ["book", "number", "numbers"] 2 (spHolds CB) := ⟨f19, _, ok_holds F_holds_all T BT HLw, PySem.W.mg_of X G a19, k19, b_holds_all⟩
  have HSpe : Has l.prog w K mg base "speaking" ["book", "numbers"] 3 (spWho CB) := ⟨f18, _, ok_who (ok_speaking F_speaking T BT HHi HHl) (ok_speakingRow F_speaking BT), PySem.W.mg_of X G a18, k18, b_speaking⟩
  have HAm : Has l.prog w K mg base "form_among" ["book", "numbers"] 4 (spHeardN CB) := ⟨f20, _, ok_among F_form_among BT HSpe, PySem.W.mg_of X G a20, k20, b_form_among⟩
  have HFA : Has l.prog w K mg base "_form_at" ["book", "cell"] 5 (spHeard CB) := ⟨f21, _, ok_formAt F_form_at HFi HAm, PySem.W.mg_of X G a21, k21, b_form_at⟩
  have HMk : Has l.prog w K mg base "makes" ["book", "table"] 6 (spMakes CF C CB) := ⟨f22, _, ok_makes F_makes T FT TT HFA, PySem.W.mg_of X G a22, k22, b_makes⟩
  have HLe : Has l.prog w K mg base "_law_ends" ["plot", "held"] 2 spEnds := ⟨f51, _, ok_ends F_law_ends T HLi, PySem.W.mg_of X G a51, k51, b_law_ends⟩
  have HSu : Has l.prog w K mg base "_law_struck" ["held", "strike"] 1 spStruckL := ⟨f52, _, ok_struckL F_law_struck T, PySem.W.mg_of X G a52, k52, b_law_struck⟩
  have HLib : Has l.prog w K mg base "_law_is_bar" ["plot", "thing"] 3 spLawBar := ⟨f53, _, ok_lawIsBar F_law_is_bar T HCm HLe HSu, PySem.W.mg_of X G a53, k53, b_law_is_bar⟩
  have HFl : Has l.prog w K mg base "_law_flag" ["told", "due"] 1 spLawFlag := ⟨f54, _, ok_lawFlag F_law_flag T, PySem.W.mg_of X G a54, k54, b_law_flag⟩
  have HHo : Has l.prog w K mg base "_law_holder" ["entries", "cell"] 2 spHolder := ⟨f55, _, ok_holder F_law_holder T HLi, PySem.W.mg_of X G a55, k55, b_law_holder⟩
  have HWm : Has l.prog w K mg base "_law_within_makes" ["plot", "entries"] 3 spWithinMk := ⟨f56, _, ok_withinMk F_law_within_makes T HHo, PySem.W.mg_of X G a56, k56, b_law_within_makes⟩
  have HCh : Has l.prog w K mg base "_law_choices" ["lists"] 1 spChoices := ⟨f57, _, ok_choices F_law_choices, PySem.W.mg_of X G a57, k57, b_law_choices⟩
  have HWs : Has l.prog w K mg base "_law_within_books" ["plot"] 4 spWithinBooks := ⟨f58, _, ok_withinBooks F_law_within_books T HCm HL HCh HWm, PySem.W.mg_of X G a58, k58, b_law_within_books⟩
  have HBe : HasE l.prog w K mg base CB 1 (BookSame CB) := ⟨f63, _, ok_bookEq F_bookEq T BT CTb, a63, i63, b_bookEq⟩
  exact ok_law F_law T BT.mgC CTb HSo HPl HTb HWs HWb HSb HLib HIsb HFl HSk HLi HBk HBe hNe hMCB HMk
end Xci
open PySem PySem.W PyProof.Rows in
set_option maxRecDepth 100000 in
set_option maxHeartbeats 0 in
theorem PySem.Challenge.cw_sameforms_k34_whole_a_book_or_a_bar_holds : PySem.Challenge.rw_sameforms_k34_whole_a_book_or_a_bar.Holds := by
  w_on; o_law; k_head; (case hw => w_witness2)
  k_fill
  refine Xci.walkL (l := PySem.Challenge.rw_sameforms_k34_whole_a_book_or_a_bar) (k := 9) "_law_forms" rfl rfl (by decide +kernel) ⟨rfl, by decide, by decide⟩ (fun w h Y => PySem.W.km_in_of Y) ?F
  case F =>
    intro w mg fa h KX G hmg
    refine' Xci.all_mk KX G hmg ?a0 ?l0 ?c0 ?k0 ?a1 ?l1 ?c1 ?k1 ?a2 ?l2 ?c2 ?k2 ?a3 ?l3 ?c3 ?k3 ?a4 ?l4 ?c4 ?k4 ?a5 ?l5 ?c5 ?k5 ?a6 ?l6 ?c6 ?k6 ?a7 ?l7 ?c7 ?k7 ?a8 ?l8 ?c8 ?k8 ?a9 ?l9 ?c9 ?k9 ?a10 ?l10 ?c10 ?k10 ?a11 ?l11 ?c11 ?k11 ?a12 ?l12 ?c12 ?k12 ?a13 ?l13 ?c13 ?k13 ?a14 ?l14 ?c14 ?k14 ?a15 ?l15 ?c15 ?k15 ?a16 ?l16 ?c16 ?k16 ?a17 ?l17 ?c17 ?k17 ?a18 ?l18 ?c18 ?k18 ?a19 ?l19 ?c19 ?k19 ?a20 ?l20 ?c20 ?k20 ?a21 ?l21 ?c21 ?k21 ?a22 ?l22 ?c22 ?k22 ?a23 ?l23 ?c23 ?k23 ?a24 ?l24 ?c24 ?k24 ?a25 ?l25 ?c25 ?k25 ?a26 ?l26 ?c26 ?k26 ?a27 ?l27 ?c27 ?k27 ?a28 ?l28 ?c28 ?k28 ?a29 ?l29 ?c29 ?k29 ?a30 ?l30 ?c30 ?k30 ?a31 ?l31 ?c31 ?k31 ?a32 ?l32 ?c32 ?k32 ?a33 ?l33 ?c33 ?k33 ?a34 ?l34 ?c34 ?k34 ?a35 ?l35 ?c35 ?k35 ?a36 ?l36 ?c36 ?k36 ?a37 ?l37 ?c37 ?k37 ?a38 ?l38 ?c38 ?k38 ?a39 ?l39 ?c39 ?k39 ?a40 ?l40 ?c40 ?k40 ?a41 ?l41 ?c41 ?k41 ?a42 ?l42 ?c42 ?k42 ?a43 ?l43 ?c43 ?k43 ?a44 ?l44 ?c44 ?k44 ?a45 ?l45 ?c45 ?k45 ?a46 ?l46 ?c46 ?k46 ?a47 ?l47 ?c47 ?k47 ?a48 ?l48 ?c48 ?k48 ?a49 ?l49 ?c49 ?k49 ?a50 ?l50 ?c50 ?k50 ?a51 ?l51 ?c51 ?k51 ?a52 ?l52 ?c52 ?k52 ?a53 ?l53 ?c53 ?k53 ?a54 ?l54 ?c54 ?k54 ?a55 ?l55 ?c55 ?k55 ?a56 ?l56 ?c56 ?k56 ?a57 ?l57 ?c57 ?k57 ?a58 ?l58 ?c58 ?k58 ?a59 ?l59 ?c59 ?k59 ?a60 ?i60 ?l60 ?c60 ?k60 ?aCC ?pgCC ?hdCC ?poCC ?saCC ?mkCC ?kcCC ?nC_family ?nC_forms ?a61 ?i61 ?l61 ?c61 ?k61 ?aCCF ?pgCCF ?hdCCF ?poCCF ?saCCF ?mkCCF ?kcCCF ?nCF_many ?nCF_cells ?a62 ?i62 ?l62 ?c62 ?k62 ?aCCB ?pgCCB ?hdCCB ?poCCB ?saCCB ?mkCCB ?kcCCB ?nCB_manner ?nCB_entries ?nCB_weights ?a63 ?i63 ?l63 ?c63 ?k63 ?z_comb ?hACB ?hMCB ?hN ?hT ?hNe ?z_len ?z_int ?z_abs ?z_list ?z_tuple ?z_range ?z_min ?z_isinstance ?z_enumerate ?z_bool ?z_str ?z_all ?z_any ?z_sum ?z_max ?z_sorted ?z_zip ?z_set ?g_LONGEST_FORM ?g_MOST_FORMS ?g_MOST_MARKS ?g_MOST_CELLS ?g_MARKS ?g_MOST_ENTRIES ?g_MOST_WEIGHT ?aM0 ?lM ?coT ?cvT ?nPT
    (case aCC => k_is)
    (case aCCF => k_is)
    (case aCCB => k_is)
    (case aM0 => k_is)
    (case a0 => k_is)
    (case l0 => k_is)
    (case c0 => k_is)
    (case k0 => k_is)
    (case a1 => k_is)
    (case l1 => k_is)
    (case c1 => k_is)
    (case k1 => k_is)
    (case a2 => k_is)
    (case l2 => k_is)
    (case c2 => k_is)
    (case k2 => k_is)
    (case a3 => k_is)
    (case l3 => k_is)
    (case c3 => k_is)
    (case k3 => k_is)
    (case a4 => k_is)
    (case l4 => k_is)
    (case c4 => k_is)
    (case k4 => k_is)
    (case a5 => k_is)
    (case l5 => k_is)
    (case c5 => k_is)
    (case k5 => k_is)
    (case a6 => k_is)
    (case l6 => k_is)
    (case c6 => k_is)
    (case k6 => k_is)
    (case a7 => k_is)
    (case l7 => k_is)
    (case c7 => k_is)
    (case k7 => k_is)
    (case a8 => k_is)
    (case l8 => k_is)
    (case c8 => k_is)
    (case k8 => k_is)
    (case a9 => k_is)
    (case l9 => k_is)
    (case c9 => k_is)
    (case k9 => k_is)
    (case a10 => k_is)
    (case l10 => k_is)
    (case c10 => k_is)
    (case k10 => k_is)
    (case a11 => k_is)
    (case l11 => k_is)
    (case c11 => k_is)
    (case k11 => k_is)
    (case a12 => k_is)
    (case l12 => k_is)
    (case c12 => k_is)
    (case k12 => k_is)
    (case a13 => k_is)
    (case l13 => k_is)
    (case c13 => k_is)
    (case k13 => k_is)
    (case a14 => k_is)
    (case l14 => k_is)
    (case c14 => k_is)
    (case k14 => k_is)
    (case a15 => k_is)
    (case l15 => k_is)
    (case c15 => k_is)
    (case k15 => k_is)
    (case a16 => k_is)
    (case l16 => k_is)
    (case c16 => k_is)
    (case k16 => k_is)
    (case a17 => k_is)
    (case l17 => k_is)
    (case c17 => k_is)
    (case k17 => k_is)
    (case a18 => k_is)
    (case l18 => k_is)
    (case c18 => k_is)
    (case k18 => k_is)
    (case a19 => k_is)
    (case l19 => k_is)
    (case c19 => k_is)
    (case k19 => k_is)
    (case a20 => k_is)
    (case l20 => k_is)
    (case c20 => k_is)
    (case k20 => k_is)
    (case a21 => k_is)
    (case l21 => k_is)
    (case c21 => k_is)
    (case k21 => k_is)
    (case a22 => k_is)
    (case l22 => k_is)
    (case c22 => k_is)
    (case k22 => k_is)
    (case a23 => k_is)
    (case l23 => k_is)
    (case c23 => k_is)
    (case k23 => k_is)
    (case a24 => k_is)
    (case l24 => k_is)
    (case c24 => k_is)
    (case k24 => k_is)
    (case a25 => k_is)
    (case l25 => k_is)
    (case c25 => k_is)
    (case k25 => k_is)
    (case a26 => k_is)
    (case l26 => k_is)
    (case c26 => k_is)
    (case k26 => k_is)
    (case a27 => k_is)
    (case l27 => k_is)
    (case c27 => k_is)
    (case k27 => k_is)
    (case a28 => k_is)
    (case l28 => k_is)
    (case c28 => k_is)
    (case k28 => k_is)
    (case a29 => k_is)
    (case l29 => k_is)
    (case c29 => k_is)
    (case k29 => k_is)
    (case a30 => k_is)
    (case l30 => k_is)
    (case c30 => k_is)
    (case k30 => k_is)
    (case a31 => k_is)
    (case l31 => k_is)
    (case c31 => k_is)
    (case k31 => k_is)
    (case a32 => k_is)
    (case l32 => k_is)
    (case c32 => k_is)
    (case k32 => k_is)
    (case a33 => k_is)
    (case l33 => k_is)
    (case c33 => k_is)
    (case k33 => k_is)
    (case a34 => k_is)
    (case l34 => k_is)
    (case c34 => k_is)
    (case k34 => k_is)
    (case a35 => k_is)
    (case l35 => k_is)
    (case c35 => k_is)
    (case k35 => k_is)
    (case a36 => k_is)
    (case l36 => k_is)
    (case c36 => k_is)
    (case k36 => k_is)
    (case a37 => k_is)
    (case l37 => k_is)
    (case c37 => k_is)
    (case k37 => k_is)
    (case a38 => k_is)
    (case l38 => k_is)
    (case c38 => k_is)
    (case k38 => k_is)
    (case a39 => k_is)
    (case l39 => k_is)
    (case c39 => k_is)
    (case k39 => k_is)
    (case a40 => k_is)
    (case l40 => k_is)
    (case c40 => k_is)
    (case k40 => k_is)
    (case a41 => k_is)
    (case l41 => k_is)
    (case c41 => k_is)
    (case k41 => k_is)
    (case a42 => k_is)
    (case l42 => k_is)
    (case c42 => k_is)
    (case k42 => k_is)
    (case a43 => k_is)
    (case l43 => k_is)
    (case c43 => k_is)
    (case k43 => k_is)
    (case a44 => k_is)
    (case l44 => k_is)
    (case c44 => k_is)
    (case k44 => k_is)
    (case a45 => k_is)
    (case l45 => k_is)
    (case c45 => k_is)
    (case k45 => k_is)
    (case a46 => k_is)
    (case l46 => k_is)
    (case c46 => k_is)
    (case k46 => k_is)
    (case a47 => k_is)
    (case l47 => k_is)
    (case c47 => k_is)
    (case k47 => k_is)
    (case a48 => k_is)
    (case l48 => k_is)
    (case c48 => k_is)
    (case k48 => k_is)
    (case a49 => k_is)
    (case l49 => k_is)
    (case c49 => k_is)
    (case k49 => k_is)
    (case a50 => k_is)
    (case l50 => k_is)
    (case c50 => k_is)
    (case k50 => k_is)
    (case a51 => k_is)
    (case l51 => k_is)
    (case c51 => k_is)
    (case k51 => k_is)
    (case a52 => k_is)
    (case l52 => k_is)
    (case c52 => k_is)
    (case k52 => k_is)
    (case a53 => k_is)
    (case l53 => k_is)
    (case c53 => k_is)
    (case k53 => k_is)
    (case a54 => k_is)
    (case l54 => k_is)
    (case c54 => k_is)
    (case k54 => k_is)
    (case a55 => k_is)
    (case l55 => k_is)
    (case c55 => k_is)
    (case k55 => k_is)
    (case a56 => k_is)
    (case l56 => k_is)
    (case c56 => k_is)
    (case k56 => k_is)
    (case a57 => k_is)
    (case l57 => k_is)
    (case c57 => k_is)
    (case k57 => k_is)
    (case a58 => k_is)
    (case l58 => k_is)
    (case c58 => k_is)
    (case k58 => k_is)
    (case a59 => k_is)
    (case l59 => k_is)
    (case c59 => k_is)
    (case k59 => k_is)
    (case a60 => k_is)
    (case i60 => k_is)
    (case l60 => k_is)
    (case c60 => k_is)
    (case k60 => k_is)
    (case pgCC => k_is)
    (case hdCC => k_is)
    (case poCC => k_is)
    (case saCC => k_is)
    (case mkCC => k_is)
    (case kcCC => k_is)
    (case nC_family => k_is)
    (case nC_forms => k_is)
    (case a61 => k_is)
    (case i61 => k_is)
    (case l61 => k_is)
    (case c61 => k_is)
    (case k61 => k_is)
    (case pgCCF => k_is)
    (case hdCCF => k_is)
    (case poCCF => k_is)
    (case saCCF => k_is)
    (case mkCCF => k_is)
    (case kcCCF => k_is)
    (case nCF_many => k_is)
    (case nCF_cells => k_is)
    (case a62 => k_is)
    (case i62 => k_is)
    (case l62 => k_is)
    (case c62 => k_is)
    (case k62 => k_is)
    (case pgCCB => k_is)
    (case hdCCB => k_is)
    (case poCCB => k_is)
    (case saCCB => k_is)
    (case mkCCB => k_is)
    (case kcCCB => k_is)
    (case nCB_manner => k_is)
    (case nCB_entries => k_is)
    (case nCB_weights => k_is)
    (case a63 => k_is)
    (case i63 => k_is)
    (case l63 => k_is)
    (case c63 => k_is)
    (case k63 => k_is)
    (case z_comb => k_is)
    (case hACB => k_is)
    (case hMCB => k_is)
    (case hN => k_is)
    (case hT => k_is)
    (case hNe => k_is)
    (case z_len => k_is)
    (case z_int => k_is)
    (case z_abs => k_is)
    (case z_list => k_is)
    (case z_tuple => k_is)
    (case z_range => k_is)
    (case z_min => k_is)
    (case z_isinstance => k_is)
    (case z_enumerate => k_is)
    (case z_bool => k_is)
    (case z_str => k_is)
    (case z_all => k_is)
    (case z_any => k_is)
    (case z_sum => k_is)
    (case z_max => k_is)
    (case z_sorted => k_is)
    (case z_zip => k_is)
    (case z_set => k_is)
    (case g_LONGEST_FORM => k_is)
    (case g_MOST_FORMS => k_is)
    (case g_MOST_MARKS => k_is)
    (case g_MOST_CELLS => k_is)
    (case g_MARKS => k_is)
    (case g_MOST_ENTRIES => k_is)
    (case g_MOST_WEIGHT => k_is)
    (case lM => k_is)
    (case coT => k_is)
    (case cvT => first | rfl | k_is | decide +kernel)
    (case nPT => first | k_is | rfl | kernel_rfl)
