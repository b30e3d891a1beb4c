import PyProof.Rows.All
import Wide.All
import OpenK.AllK
import Wide.FinOn
import HandS.ForMost
import KE.GoesEnum
import HandS.Codes
import HandS.IsInst
import HandS.Zip
import HandS.TupAny
import HandS.Deep
import HandS.TupSets
import HandS.Conv
import HandS.Walk
import HandS.SortInts
import HandS.TupMul
import KE.GoesZip
import HandS.SetFor
import HandS.Comp
import HandS.Set
import HandS.SetKeys
import HandS.SetBool
import PyProof.Rows.SortShellAny
import PyProof.Rows.SortStr
import HandS.NamedTupSort
import HandS.TryOnly
import HandS.OwnEq
import HandS.TupLe
import HandS.ExcInit
import HandS.Nested
import HandS.ExcOwn
import HandS.WordsExc
import HandS.ExcField
import HandS.ExcIs
import KE.KExcSuper
import KE.KSuper
import KE.RegKSuper
import PyProof.ReprBulk
import HandS.Style
import HandS.Star
import KE.KExcIs
import PySem.Challenge.RW_sameforms_k03_sayings_refused
set_option Elab.async false
set_option linter.all false
set_option maxRecDepth 100000
namespace Xci
open PySem PySem.Spec PyProof.Rows L2
/-- what a tuple's walk begins with, and what counts it -/
def tupleWalkO (t : Addr) : Obj := { cls := .type "tuple_iterator", data := .fields #[.ref t, .int 0 0] }
def countO (walk : Addr) : Obj := { cls := .type "enumerate", data := .fields #[.none, .bool false, .ref walk, rawInt 0, .none, .none] }
abbrev counted (h : Heap) (t : Addr) : Heap := (h.push (tupleWalkO t)).push (countO h.objs.size)
theorem counted_kept {h : Heap} {t b : Addr} {o : Obj} (q : h.get? b = some o) : (counted h t).get? b = some o :=
  Heap.get?_push_of_some _ (Heap.get?_push_of_some _ q)
theorem counted_walk {h : Heap} {t : Addr} : (counted h t).IsTupleIter h.objs.size t 0 :=
  ⟨tupleWalkO t, Heap.get?_push_of_some _ (Heap.get?_push_size _ rfl), rfl, rfl⟩
theorem counted_at {h : Heap} {t : Addr} : IsEnum (counted h t) (h.objs.size + 1) h.objs.size 0 .none := by
  have q : (counted h t).get? (h.push (tupleWalkO t)).objs.size = some (countO h.objs.size) := Heap.get?_push_size _ rfl
  rw [Heap.size_push] at q
  exact q
set_option maxHeartbeats 1000000 in
theorem count_new (t : Addr) (items : Array Value) : Meets (Builtin.«enumerate.__new__» ⟨[.type "enumerate", .ref t], []⟩)
    (fun _ R s => s.heap.IsTuple t items ∧ R (.ok (.ret (.ref (s.heap.push (tupleWalkO t)).objs.size))) { s with heap := counted s.heap t }) :=
  .of_wp fun prog w A R s hs => by
    cases s
    have known := sub_enumerate
    have walk := fun {A' : Around} {E : Value → Shared → Prop} {Q : Value → Shared → Prop} (q : Q _ _) => (begins_tuple t items).iter prog w A' E _ Q hs.1 q
    wp_walk using walk
    refine wpAny_stack_any fun st => wpAny_pure ?_
    split
    case h_1 c _ _ _ _ _ => cases (c == Value.type "enumerate") <;> (wp_walk using walk; exact ⟨_, rfl, hs.2⟩)
    all_goals (wp_walk using walk; exact ⟨_, rfl, hs.2⟩)
theorem call_count {P : Program} {w : World} {A : Around} {E : Value → Shared → Prop} {s : Shared} {t : Addr} {items : Array Value} {Q : Value → Shared → Prop} (p : s.heap.IsTuple t items)
    (q : Q (.ref (s.heap.objs.size + 1)) { s with heap := counted s.heap t }) : wpAny (model P w) A (call (.type "enumerate") [.ref t]) Q E s := by
  refine callType_new F.called_enumerate (by decide) (F.typeCall_enumerate_1 _) (F.newCall_enumerate_1 _) (F.args_object_init_2 · _) F.entry_enumerate_new (count_new t items) ⟨p, ?_⟩
  rw [Heap.size_push]
  exact ⟨⟨_, counted_at, rfl⟩, q⟩
/-- item by item through the tuple at a, each told with its number in a new pair -/
def IteT (K : PySem.W.Frag) (a : Addr) : It where
  go i H := ∃ (xs : List V) (x : V), SqT K H a xs ∧ xs[i]? = some x
  yld i H v H' := ∃ T x, v = .ref T ∧ H T = none ∧ H' = upd H T (.tup [.int (i : Nat), x]) ∧ ∀ xs, SqT K H a xs → xs[i]? = some x
  stop i H := ∃ xs : List V, SqT K H a xs ∧ xs.length = i
/-- the walk stands ahead of number i -/
def StandsT (a e it : Addr) (i : Nat) (h : Heap) : Prop := (∃ old, IsEnum h e it (i : Int) old) ∧ h.IsTupleIter it a i
theorem turn_enumT {P : Program} {w : World} {K : PySem.W.Frag} {elts : List Expr} {kk : Nat} {tpos : Pos} {a e it : Addr} (h1 : a ≠ it) (h2 : a ≠ e) (h3 : e ≠ it) :
    Turn P w K (.Tuple elts kk tpos) (IteT K a) [e, it] e (StandsT a e it) where
  mem := List.mem_cons_self
  self A i s Q E st q := by
    obtain ⟨⟨_, at0⟩, _⟩ := st
    exact wpAny_pyIter_enum at0 q
  keep i h h' st k := by
    obtain ⟨⟨v, at0⟩, at1⟩ := st
    exact ⟨⟨v, k e List.mem_cons_self _ at0⟩, at1.at fun o => k it (List.mem_cons_of_mem _ List.mem_cons_self) o⟩
  obj i h st b hb := by
    obtain ⟨⟨_, at0⟩, o, at1, _, dat⟩ := st
    rcases List.mem_cons.mp hb with rfl | hb
    · exact ⟨_, at0, nofun⟩
    · cases List.mem_singleton.mp hb
      exact ⟨o, at1, fun v z => nomatch dat.symm.trans z⟩
  item X eP eW eK calm i pins s σ H E I free st now := by
    subst eP; subst eW; subst eK
    obtain ⟨xs, x, sq, hx⟩ := now
    obtain ⟨its, vals, tup, _⟩ := I.tuple sq
    obtain ⟨u, hu, ru⟩ := vals.get hx
    have W := WalksT.enumerateD (Draws.tuple (prog := X.prog) (w := X.w) (A := X.A.in1) (show X.A.in1.handled = none from I.ok.hd calm) it a h1 its.toArray) e h3
      (fun z => (List.mem_cons.mp z).elim h3 fun z => h2 (List.mem_singleton.mp z).symm) List.mem_cons_self
    refine W.item i s _ E (by rw [List.size_toArray]; exact (List.getElem?_eq_some_iff.mp hu).1) ⟨st.1, st.2, tup⟩ fun T row h' tk told hT rowT mid kept => ⟨_, rfl, W.go elts kk tpos i T _ _ E mid fun h'' st' kept' => ?_⟩
    obtain ⟨t, y, hy, rfl⟩ := told
    obtain rfl : y = u := Option.some.inj (hy.symm.trans (by rw [List.getElem?_toArray]; exact hu))
    have out := W.apart i T h' mid
    have row'' : h''.IsTuple T #[.int (i : Int) t, y] := rowT.at fun o => kept' T o out
    have J := I.turnedNew (t' := tk) (fun b o nb q => kept' b o nb (kept b o nb q)) free hT (ob := .tup [.int (i : Int), x]) ⟨by show 2 ≤ sizeLine; decide, _, .cons ⟨t, rfl⟩ (.cons ru .nil), row''⟩
    refine ⟨.ref T, _, J, rfl, ⟨T, x, rfl, I.hok.fresh hT, rfl, fun ys sq' => I.tuple_inj sq' sq ▸ hx⟩, ⟨?_, st'.2.1⟩, fun b hb => ?_⟩
    · obtain ⟨⟨v, z⟩, _⟩ := st'
      exact ⟨v, z⟩
    · rw [upd_ne fun z : b = T => out (z ▸ hb)]
      exact (free b hb).1
  done X eP eW eK calm i pins s σ H E I free st now := by
    subst eP; subst eW; subst eK
    obtain ⟨xs, sq, rfl⟩ := now
    obtain ⟨its, vals, tup, _⟩ := I.tuple sq
    obtain ⟨⟨v, at0⟩, at1⟩ := st
    rw [vals.length, ← List.size_toArray] at at0 at1
    obtain ⟨n, l, c1, c2, c3, c4⟩ := free it (List.mem_cons_of_mem _ List.mem_cons_self)
    exact wpAny_pyNext_enum_endD (Draws.tuple (prog := X.prog) (w := X.w) (A := X.A.in1) (show X.A.in1.handled = none from I.ok.hd calm) it a h1 its.toArray) at0 ⟨at1, tup⟩ fun h' k => ⟨rfl, I.turned (t' := s.toks) k n l c2 c3 c4⟩
/-- enumerate(a tuple) -/
def iEnumT (K : PySem.W.Frag) (ta : TA) : TI := fun σ H R => ta σ H fun vs H1 => ∃ a xs, vs = [.ref a] ∧ SqT K H1 a xs ∧ R (IteT K a) H1
theorem pi_enumT {X : Cx} {e : Expr} {ta : TA} {p pos tpos : Pos} {elts : List Expr} {kk : Nat} (hg : Gl X "enumerate") (hm : X.mg "enumerate" = none) (ha : PA X [e] ta) (hs : starEach [e] X.env = [(false, eval e X.env)] := by rfl) :
    PI X (.Tuple elts kk tpos) (.Call (.Name "enumerate" p) [e] [] pos) (iEnumT X.K ta) where
  run pins s σ H R I h := Call_ (ld_blt I hg hm boot_enumerate (PyProof.Rows.callWith_type1 (thn (ha.run pos pins s σ H _ I h) fun us s1 ⟨vs, H1, I1, rs, a, xs, one, sq, q⟩ => by
    subst one
    rw [Vals.ref1 rs]
    obtain ⟨its, _, tup, _⟩ := I1.tuple sq
    obtain ⟨o, lo, _⟩ := id tup
    have la := Heap.lt_size lo
    refine call_count tup (wpAny_pyIter_enum counted_at ⟨s1.heap.objs.size + 1, [s1.heap.objs.size + 1, s1.heap.objs.size], StandsT a _ _, _, H1, rfl, I1.kept (t' := s1.toks) fun _ _ => counted_kept,
      turn_enumT (Nat.ne_of_lt la) (Nat.ne_of_lt (Nat.lt_succ_of_lt la)) (Nat.succ_ne_self _), ⟨⟨_, counted_at⟩, counted_walk⟩, fun b hb => ?_, q⟩)
    have lb : s1.heap.objs.size ≤ b := (List.mem_cons.mp hb).elim (fun z => z ▸ Nat.le_succ _) fun z => (List.mem_singleton.mp z) ▸ Nat.le_refl _
    exact I1.fpOk lb (I1.hok.fresh lb)) hs rfl))
end Xci

namespace Xci
open PySem PySem.Spec PyProof.Rows L2
section
variable {P : Program} {w : World} {K : PySem.W.Frag} {mg : Str → Option Value} {base : Heap}
/-- what stands under the name x keeps the promise sp -/
structure Has (P : Program) (w : World) (K : PySem.W.Frag) (mg : Str → Option Value) (base : Heap) (x : Str) (ps : List Str) (k : Nat) (sp : Sp) : Prop where
  ex : ∃ (f : Addr) (fd : FuncData), FnOk P w K mg base CX0 k f fd ps sp ∧ mg x = some (.ref f) ∧ PySem.W.keepIn K (.ref f) = true ∧ Binds K fd ps []
end
theorem pe_callH {X : Cx} {x : Str} {ps : List Str} {k : Nat} {sp : Sp} {e : Expr} {es : List Expr} {t : TA} {p pos : Pos} (h : Has X.prog X.w X.K X.mg X.base x ps k sp) (hr : Room k X.A) (hg : Gl X x)
    (ha : PA X (e :: es) t) (hdb : (x == ("__debug__" : Str)) = false := by decide) (he : starEach (e :: es) X.env = (false, eval e X.env) :: starEach es X.env := by rfl) (hpl : (backTo pos (starEach es X.env)).any (·.1) = false := by rfl) :
    PE X (.Call (.Name x p) (e :: es) [] pos) (tCall sp [] E0 t) := by
  obtain ⟨f, fd, F, m, kp, b⟩ := h.ex
  exact pe_call F hr hg m kp b .nil pass0 ha hdb he hpl
/-- the class that stands under the name x, its __init__ keeping the promise sp -/
structure HasC (P : Program) (w : World) (K : PySem.W.Frag) (mg : Str → Option Value) (base : Heap) (x : Str) (C : Addr) (ps : List Str) (k : Nat) (sp : Sp) : Prop where
  ex : ∃ (f : Addr) (fd : FuncData), FnOk P w K mg base CX0 k f fd ps sp ∧ L2.Mk K C f ∧ mg x = some (.ref C) ∧ Binds K fd ps []
theorem pe_makeH {X : Cx} {x : Str} {C : Addr} {ps : List Str} {k : Nat} {sp : Sp} {e : Expr} {es : List Expr} {t : TA} {p pos : Pos} (h : HasC X.prog X.w X.K X.mg X.base x C ps k sp) (hr : Room (k + 1) X.A) (hg : Gl X x)
    (ha : PA X (e :: es) t) (hdb : (x == ("__debug__" : Str)) = false := by decide) (he : starEach (e :: es) X.env = (false, eval e X.env) :: starEach es X.env := by rfl) (hpl : (backTo pos (starEach es X.env)).any (·.1) = false := by rfl) :
    PE X (.Call (.Name x p) (e :: es) [] pos) (tMake C sp [] E0 t) := by
  obtain ⟨f, fd, F, M, m, b⟩ := h.ex
  exact pe_make M F hr hg m b .nil pass0 ha hdb he hpl
/-- all but what stands at a is kept -/
def Fr (a : Addr) (H H' : Hp) : Prop := ∀ b o, H b = some o → b ≠ a → H' b = some o
theorem Fr.refl (a : Addr) (H : Hp) : Fr a H H := fun _ _ h _ => h
theorem Fr.trans {a : Addr} {H H1 H2 : Hp} (f : Fr a H H1) (g : Fr a H1 H2) : Fr a H H2 := fun b o h n => g b o (f b o h n) n
theorem Fr.same {a : Addr} {H H' : Hp} (f : Same H H') : Fr a H H' := fun b o h _ => f b o h
theorem Fr.at {a : Addr} {H : Hp} {o : HO} : Fr a H (upd H a o) := fun b u h n => by rw [upd_ne n]; exact h
theorem Fr.new {a p : Addr} {H : Hp} {o : HO} (h : H p = Option.none) : Fr a H (upd H p o) := fun b u e _ => by rw [upd_ne (ne_of_none e h)]; exact e
theorem Same.new {p : Addr} {H : Hp} {o : HO} (h : H p = Option.none) : Same H (upd H p o) := fun b u e => by rw [upd_ne (ne_of_none e h)]; exact e
/-- an address that stood nowhere before, behind a frame that keeps all but a -/
theorem Fr.free {a : Addr} {H H' : Hp} (f : Fr a H H') {o : HO} (ha : H a = some o) {p : Addr} (h : H' p = Option.none) (ha' : ∃ o', H' a = some o') : H p = Option.none := by
  cases q : H p with
  | none => rfl
  | some u =>
    by_cases e : p = a
    · subst e
      obtain ⟨o', z⟩ := ha'
      rw [z] at h; cases h
    · rw [f p u q e] at h; cases h
/-- the tuples are kept -/
def TFr (H H' : Hp) : Prop := ∀ p xs, H p = some (.tup xs) → H' p = some (.tup xs)
theorem TFr.refl (H : Hp) : TFr H H := fun _ _ h => h
theorem TFr.trans {H H1 H2 : Hp} (f : TFr H H1) (g : TFr H1 H2) : TFr H H2 := fun p xs h => g p xs (f p xs h)
theorem TFr.same {H H' : Hp} (f : Same H H') : TFr H H' := fun p xs h => f p _ h
theorem TFr.new {p : Addr} {H : Hp} {o : HO} (h : H p = Option.none) : TFr H (upd H p o) := TFr.same (Same.new h)
theorem TFr.lst {p : Addr} {H : Hp} {o : HO} {ys : List V} (h : H p = some (.lst ys)) : TFr H (upd H p o) := fun q xs e => by
  rw [upd_ne (ne_of e h (by intro z; cases z))]; exact e
theorem TFr.fr {a : Addr} {H H' : Hp} {ys : List V} (h : H a = some (.lst ys)) (f : Fr a H H') : TFr H H' := fun q xs e => f q _ e (ne_of e h (by intro z; cases z))
/-- v is a tuple of xs -/
def Tup (H : Hp) (v : V) (xs : List V) : Prop := ∃ p, v = .ref p ∧ H p = some (.tup xs)
theorem Tup.keep {H H' : Hp} {v : V} {xs : List V} (f : TFr H H') (t : Tup H v xs) : Tup H' v xs := by
  obtain ⟨p, e, h⟩ := t
  exact ⟨p, e, f p xs h⟩
/-- the deck that the law draws from, and its own list at l: nothing is known of its five items but that the numbers are in bounds -/
def Deck (H : Hp) (a l : Addr) : Prop := ∃ (ns : List Int) (i c n s : Int), H a = some (.lst [.ref l, .int i, .int c, .int n, .int s]) ∧ H l = some (.lst (ns.map V.int)) ∧ a ≠ l ∧ (∀ z ∈ ns, 0 ≤ z) ∧ 0 ≤ i ∧ i ≤ (ns.length : Int) ∧ 0 ≤ c ∧ 0 ≤ s ∧ s < 2147483647
theorem Deck.is {H : Hp} {a l : Addr} (d : Deck H a l) : ∃ ys, H a = some (.lst ys) := by
  obtain ⟨ns, i, c, n, s, h, _⟩ := d
  exact ⟨_, h⟩
theorem Deck.is' {H : Hp} {a l : Addr} (d : Deck H a l) : ∃ ys, H l = some (.lst ys) := by
  obtain ⟨ns, i, c, n, s, _, h, _⟩ := d
  exact ⟨_, h⟩
theorem Deck.tfr {H H' : Hp} {a l : Addr} (d : Deck H a l) (f : Fr a H H') : TFr H H' := by
  obtain ⟨ys, h⟩ := d.is
  exact TFr.fr h f
theorem Deck.keep {H H' : Hp} {a l : Addr} (d : Deck H a l) (f : Same H H') : Deck H' a l := by
  obtain ⟨ns, i, c, n, s, h, hl, r⟩ := d
  exact ⟨ns, i, c, n, s, f _ _ h, f _ _ hl, r⟩
/-- a store at q, which is neither the deck nor its list -/
theorem Deck.put {H : Hp} {a l q : Addr} {o : HO} (d : Deck H a l) (n1 : q ≠ a) (n2 : q ≠ l) : Deck (upd H q o) a l := by
  obtain ⟨ns, i, c, n, s, h, hl, r⟩ := d
  exact ⟨ns, i, c, n, s, by rw [upd_ne n1.symm]; exact h, by rw [upd_ne n2.symm]; exact hl, r⟩
/-- q was free when the deck stood -/
theorem Deck.ne {H : Hp} {a l q : Addr} (d : Deck H a l) (h : H q = Option.none) : q ≠ a := by
  obtain ⟨ys, z⟩ := d.is
  exact (ne_of_none z h).symm
theorem Deck.ne' {H : Hp} {a l q : Addr} (d : Deck H a l) (h : H q = Option.none) : q ≠ l := by
  obtain ⟨ys, z⟩ := d.is'
  exact (ne_of_none z h).symm
/-- what is free behind a draw was free ahead of it -/
theorem Deck.free {H H' : Hp} {a l q : Addr} (d : Deck H' a l) (f : Fr a H H') (h : H' q = Option.none) : H q = Option.none := by
  have n := d.ne h
  cases e : H q with
  | none => rfl
  | some u => rw [f q u e n] at h; cases h
def spTake : Sp := fun vs H Q _ => ∃ (a l : Addr) (m : Int), vs = [.ref a, .int m] ∧ Deck H a l ∧ 0 < m ∧ m < 1073741824 ∧ ∀ (d : Int) (H' : Hp), 0 ≤ d → d < m → Deck H' a l → Fr a H H' → (∀ b, b ≠ a → H' b = H b) → Q (.int d) H'
theorem pe_gint {X : Cx} {x : Str} {i : Int} {t : Tok} {pos : Pos} (hg : Gl X x) (hm : X.mg x = some (.int i t)) (hd : (x == ("__debug__" : Str)) = false := by decide) : PE X (.Name x pos) (tC (.int i)) := pe_glob (v := .int i) hg hm ⟨t, rfl⟩ hd
theorem walk_enumT {K : PySem.W.Frag} {a : Addr} {xs : List V} : Walk (IteT K a) xs.length (fun H => SqT K H a xs) (fun i H v H' => ∃ T x, v = .ref T ∧ H T = none ∧ H' = upd H T (.tup [.int (i : Nat), x]) ∧ xs[i]? = some x) :=
  ⟨fun i H hi q => ⟨xs, xs[i], q, List.getElem?_eq_getElem hi⟩, fun H q => ⟨xs, q, rfl⟩, fun i H v H' hi q ⟨T, x, e1, e2, e3, f⟩ => ⟨T, x, e1, e2, e3, f xs q⟩⟩
theorem call_lenK {X : Cx} : CallR X (.builtin "len") (rLen X.K) := call_len
def rTupOf (K : PySem.W.Frag) : List V → Hp → VK → Prop := fun xs H Q => ∃ p ys, xs = [.ref p] ∧ ((SqL K H p ys ∧ ∀ l, H l = none → Q (.ref l) (upd H l (.tup ys))) ∨ (SqT K H p ys ∧ Q (.ref p) H))
theorem call_tupleK {X : Cx} : CallR X (.type "tuple") (rTupOf X.K) := call_tuple_of
def rListOf (K : PySem.W.Frag) : List V → Hp → VK → Prop := fun xs H Q => ∃ p ys, xs = [.ref p] ∧ (SqL K H p ys ∨ SqT K H p ys) ∧ ∀ l, H l = none → Q (.ref l) (upd H l (.lst ys))
theorem call_listK {X : Cx} : CallR X (.type "list") (rListOf X.K) := call_list_of
theorem hu64 {A : Around} {k : Nat} (hr : Room k A) : A.units + 64 < cLine := by have := hr.un; omega
/-- the names that the top leaves to the built-ins -/
structure Txt (mg : Str → Option Value) : Prop where
  len : mg "len" = none
  int : mg "int" = none
  abs : mg "abs" = none
  list : mg "list" = none
  tuple : mg "tuple" = none
  range : mg "range" = none
  min : mg "min" = none
  isinstance : mg "isinstance" = none
  enumerate : mg "enumerate" = none
  bool : mg "bool" = none
  str : mg "str" = none
  all : mg "all" = none
  any : mg "any" = none
  sum : mg "sum" = none
  max : mg "max" = none
  sorted : mg "sorted" = none
  zip : mg "zip" = none
  set : mg "set" = none
end Xci

namespace Xci
open PySem PySem.Spec PyProof.Rows L2
/-- a set as it is made, nothing in it -/
abbrev emptyO (w : World) : Obj := { cls := .type "set", dict := none, data := .set #[] 0 (.fresh 0 0 (!w.params.followText "set-order")) }
section
variable {P : Program} {w : World} {A : Around} {E : Value → Shared → Prop} {s : Shared}
/-- a type that makes a thing and fills it; what the filling is checked for is the caller's to tell -/
theorem made_and_filled {T newId initId : String} {args : List Value} {Q Made : Value → Shared → Prop} (ft : TypeCalled T newId initId) (fits : checkTypeCall T ⟨args, []⟩ = pure ())
    (making : codeAny (model P w) A.in1 (.call (.builtin newId) ⟨.type T :: args, []⟩) (wants Made E) s)
    (filling : ∀ v s1, Made v s1 → s1.TypeIs v T ∧ codeAny (model P w) A.in1 (.call (.builtin initId) ⟨v :: args, []⟩) (wants (fun r s2 => r = .none ∧ Q v s2) E) s1) :
    wpAny (model P w) A (call (.type T) args) Q E s := by
  have order := ft.mro
  have maker := ft.made
  have self := ft.sub
  have apart := ft.notType
  have may := ft.canCreate
  obtain ⟨_, _, order⟩ := order
  refine wpAny_call (codeAny_of_tree (show wpAny _ _ (callAny (.type T) _) _ _ _ from wpAny_pure ⟨Code.quiet_builtin _ (by decide +kernel), codeAny_builtin F.entry_type_call ?_⟩))
  rw [Around.under_plain (weight_type_call_type T args []) rfl]
  repeat (any_goals (first | assumption | wp_step))
  refine codeAny_mono making fun r s1 mr => ?_
  match r, mr with
  | .ok (.ret v), mr =>
    obtain ⟨isT, fill⟩ := filling v s1 mr
    have where_ := ft.init.lookup
    have bound := ft.init.bind v
    repeat (any_goals (first | assumption | wp_step))
    refine codeAny_mono fill fun r2 s2 fr => ?_
    match r2, fr with
    | .ok (.ret r), fr =>
      obtain ⟨rfl, done⟩ := fr
      repeat (any_goals (first | assumption | wp_step))
    | .error _, fr => exact fr
  | .error _, mr => exact mr
set_option maxHeartbeats 3200000 in
/-- set(a tuple of tuples of ints): what is told of it is what the loop over the tuple's walk leaves -/
theorem set_of_tuple {t : Addr} {items : Array Value} (ks : List (Addr × List Int)) {Q : Value → Shared → Prop} (hh : A.handled = none) (p : s.heap.IsTuple t items) (row : items.toList = ks.map fun p => Value.ref p.1)
    (hk : ∀ p ∈ ks, IsT P w s.heap p.2 p.1) (few : ks.length < 64) (hu : A.units + 3 < cLine)
    (q : ∀ h' tk L es ep tb, SetTR P w h' s.heap.objs.size L es ep tb → (∀ x, x ∈ L.map (·.2) ↔ x ∈ ks.map (·.2)) → (∀ b o, s.heap.get? b = some o → h'.get? b = some o) → Q (.ref s.heap.objs.size) { s with heap := h', toks := tk }) :
    wpAny (model P w) A (call (.type "set") [.ref t]) Q E s := by
  refine made_and_filled F.called_set (F.typeCall_set_1 _) (code_set_led1 (Q₁ := fun v s1 => v = .ref s.heap.objs.size ∧ s1 = { s with heap := s.heap.push (emptyO w) }) (.ref t) ⟨rfl, rfl⟩) ?_
  rintro _ _ ⟨rfl, rfl⟩
  have new : (s.heap.push (emptyO w)).get? s.heap.objs.size = some (emptyO w) := Heap.get?_push_size _ rfl
  refine ⟨⟨_, new, rfl⟩, codeAny_call_builtin F.called_set.init.plain F.entry_set_init (check_set_init_1 ⟨_, new, rfl⟩ ?_)⟩
  have old : ∀ b o, s.heap.get? b = some o → (s.heap.push (emptyO w)).get? b = some o := fun b o => Heap.get?_push_of_some _
  have tup : (s.heap.push (emptyO w)).IsTuple t items := p.at fun o => old t o
  have noSet := F.sub_tuple_set
  have noFrozen := F.sub_tuple_frozenset
  have noDict : (Value.type "tuple" == Value.type "dict") = false := by decide
  obtain ⟨o, at0, c0, n0, d0⟩ := id tup
  obtain ⟨oc, od, odat, osl⟩ := o
  cases c0
  cases d0
  unfold Builtin.«set.__init__» noKeywords Builtin.Frozenset.updateFrom
  generalize iterates : pyIter = PI
  wp_walk
  subst iterates
  refine wpAny_pyIter_tuple tup ?_
  refine wpAny_bind (wpAny_runValue ?_)
  have size1 : (s.heap.push (emptyO w)).objs.size = s.heap.objs.size + 1 := Heap.size_push ..
  have lt := Heap.lt_size (p.choose_spec.1)
  have count : items.size = ks.length := by rw [← Array.length_toList, row, List.length_map]
  have nowhere : ∀ b, s.heap.objs.size ≤ b → s.heap.get? b = none := fun b hb => by
    cases z : s.heap.get? b with
    | none => rfl
    | some o => exact absurd (Heap.lt_size z) (Nat.not_lt.mpr hb)
  have W := (Walks.tuple (prog := P) (w := w) (A := A.in1.in1.in1) (show A.in1.in1.in1.handled = none from hh) (s.heap.objs.size + 1) t (Nat.ne_of_lt (Nat.lt_succ_of_lt lt)) items).toS
  show codeAny _ _ (.builtin "set.update.loop" ⟨[.ref s.heap.objs.size, .ref (s.heap.push (emptyO w)).objs.size], []⟩) _ _
  rw [size1]
  refine set_update_tups W s.heap.objs.size ?_ ks count few (fun i v e => ?_) s.heap hk (nowhere _ (Nat.le_refl _)) (fun b hb => nowhere b ?_) (by simpa using hu) (items.size - 0) 0 _ rfl (Nat.zero_le _) ?_ (fun b o e => ?_) ⟨[], _, _, _, setTR_fresh ?_, Got.zero ks⟩ fun s' L es ep tb moved R got kept => ?_
  · intro z
    rcases List.mem_cons.mp z with z | z
    · exact absurd z (Nat.ne_of_lt (Nat.lt_succ_self _))
    · exact absurd (List.mem_singleton.mp z) (Nat.ne_of_gt lt)
  · rw [← Array.getElem?_toList, row, List.getElem?_map] at e
    obtain ⟨y, hy, ey⟩ := Option.map_eq_some_iff.mp e
    exact ⟨y, hy, ey.symm⟩
  · rw [List.mem_singleton.mp hb]
    exact Nat.le_succ _
  · refine ⟨⟨{ cls := .type "tuple_iterator", data := .fields #[.ref t, .int 0 0] }, ?_, rfl, rfl⟩, tup.at fun o => Heap.get?_push_of_some _⟩
    rw [← size1]
    exact Heap.get?_push_size _ rfl
  · exact Heap.get?_push_of_some _ (old b o e)
  · exact Heap.get?_push_of_some _ new
  · rw [count] at got
    have members : ∀ x, x ∈ L.map (·.2) ↔ x ∈ ks.map (·.2) := fun x => by
      constructor
      · intro z
        obtain ⟨y, hy, ey⟩ := List.mem_map.mp z
        exact ey ▸ List.mem_map_of_mem (List.mem_of_mem_take (got.sub y hy))
      · intro z
        obtain ⟨y, hy, ey⟩ := List.mem_map.mp z
        exact ey ▸ got.all y (by rw [List.take_length]; exact hy)
    obtain ⟨h', g', d', tk', os'⟩ := s'
    obtain ⟨_, rfl, ed, eo, _⟩ := moved
    cases (show d' = s.drawn from ed)
    cases (show os' = s.os from eo)
    exact wpAny_pure (wpAny_pure ⟨rfl, q h' tk' L es ep tb R members kept⟩)
end
theorem fewer_of_twice {α : Type} : ∀ (l : List α), ¬ l.Nodup → ∃ m : List α, m.length < l.length ∧ ∀ x ∈ l, x ∈ m
  | [], h => absurd List.nodup_nil h
  | x :: r, h => by
    by_cases hx : x ∈ r
    · refine ⟨r, Nat.lt_succ_self _, fun y hy => ?_⟩
      rcases List.mem_cons.mp hy with e | z
      · rw [e]; exact hx
      · exact z
    · obtain ⟨m, h1, h2⟩ := fewer_of_twice r fun z => h (List.nodup_cons.mpr ⟨hx, z⟩)
      refine ⟨x :: m, Nat.succ_lt_succ h1, fun y hy => ?_⟩
      rcases List.mem_cons.mp hy with e | z
      · rw [e]; exact List.mem_cons_self
      · exact List.mem_cons_of_mem _ (h2 y z)
theorem fits_in {α : Type} [DecidableEq α] : ∀ (l m : List α), l.Nodup → (∀ x ∈ l, x ∈ m) → l.length ≤ m.length
  | [], _, _, _ => Nat.zero_le _
  | x :: r, m, h, s => by
    obtain ⟨h1, h2⟩ := List.nodup_cons.mp h
    have hm := s x List.mem_cons_self
    have ne : ∀ y ∈ r, y ≠ x := fun y hy e => by rw [e] at hy; exact h1 hy
    have k := fits_in r (m.erase x) h2 fun y hy => (List.mem_erase_of_ne (ne y hy)).mpr (s y (List.mem_cons_of_mem _ hy))
    rw [List.length_erase_of_mem hm] at k
    have : 0 < m.length := List.length_pos_of_mem hm
    show r.length + 1 ≤ _
    omega
theorem count_unlike {α : Type} [DecidableEq α] {l m : List α} (h : l.Nodup) (same : ∀ x, x ∈ l ↔ x ∈ m) : l.length ≤ m.length ∧ (l.length = m.length ↔ m.Nodup) := by
  refine ⟨fits_in l m h fun x => (same x).mp, fun e => ?_, fun hm => ?_⟩
  · refine Decidable.byContradiction fun twice => ?_
    obtain ⟨k, k1, k2⟩ := fewer_of_twice m twice
    have := fits_in l k h fun x hx => k2 x ((same x).mp hx)
    omega
  · exact Nat.le_antisymm (fits_in l m h fun x => (same x).mp) (fits_in m l hm fun x => (same x).mpr)
/-- len(set(x)), x a tuple of tuples of ints: how many unlike ones stand in it -/
def tLenSetT (K : PySem.W.Frag) (ta : TE) : TE := fun σ H Q => ta σ H fun x H1 => ∃ (t : Addr) (ks : List (Addr × List Int)), x = .ref t ∧ SqT K H1 t (ks.map fun p => .ref p.1) ∧ (∀ p ∈ ks, SqT K H1 p.1 (p.2.map V.int)) ∧ ks.length < 64 ∧
  ∀ n : Nat, n ≤ ks.length → (n = ks.length ↔ (ks.map (·.2)).Nodup) → Q (.int n) H1
theorem pe_lenSetT {X : Cx} {a : Expr} {ta : TE} {p p2 q pos : Pos} (hc : X.calm = true) (hu : X.A.units + 64 < cLine) (hg : Gl X "len") (hm : X.mg "len" = none) (hg2 : Gl X "set") (hm2 : X.mg "set" = none) (ha : PE X a ta)
    (na : starEach [a] X.env = (false, eval a X.env) :: starEach [] X.env := by rfl) : PE X (.Call (.Name "len" p) [.Call (.Name "set" p2) [a] [] q] [] pos) (tLenSetT X.K ta) where
  run pins s σ H Q I h := by
    refine Call_ (ld_blt I hg hm PySem.boot_len (callWith_builtin1 (args_cons (Call_ (ld_blt I hg2 hm2 boot_set (callWith_type1 (args_cons (thn (ha.run pins s σ H _ I h) fun v s1 ⟨x, H1, I1, rv, t, ks, one, sq, each, few, k⟩ => args_nil ?_) na) na rfl))) rfl) rfl rfl))
    subst one
    cases rv
    obtain ⟨its, vals, tup, _⟩ := I1.tuple sq
    refine set_of_tuple (P := X.prog) (w := X.w) ks (I1.ok.hd hc) tup (refs_of_vals vals) (fun p hp => I1.isT (each p hp)) few (by omega) fun h' tk L es ep tb R members kept => args_nil ?_
    obtain ⟨o, at0, exact_, dat⟩ := R.ob
    have n1 := count_unlike R.nd members
    rw [List.length_map, List.length_map] at n1
    have n2 : es.size = L.length := R.size (s := ⟨h', s1.gens, s1.drawn, tk, s1.os⟩)
    have J : Inv X pins σ H1 { s1 with heap := h', toks := tk } := I1.kept kept
    refine call_len_set at0 exact_ dat (R.fits (s := ⟨h', s1.gens, s1.drawn, tk, s1.os⟩)) (by rw [n2]; omega) ⟨.int L.length, H1, J.tok _, ⟨_, by rw [n2]⟩, k _ n1.1 n1.2⟩
end Xci

namespace Xci
open PySem PySem.Spec PyProof.Rows L2
section
variable {κ : Type} [DecidableEq κ] {P : Program} {w : World} (kind : KeyKind P w κ)
/-- rows and table of a set whose members are told by S, n of them, any two rows unlike, and that can be walked -/
structure Laid (es : Array (Int × Value)) (t : SetTable) (S : κ → Bool) (n : Nat) : Prop where
  rows : ElemsOf kind es.toList
  told : ∀ k, S k = true ↔ ∃ e ∈ es.toList, kind.is k e.2 = true
  unlike : es.toList.Pairwise fun e f => ∀ k, kind.is k e.2 = true → kind.is k f.2 = false
  few : es.size < scanBound
  fits : t.fits es.size = true
  count : es.size = n
  rises : Ris t.place.toList
  ledger : w.params.followText "set-order" = true ∨ t.led = true
variable {kind}
theorem unlike_perm {l m : List (Int × Value)} (p : l.Perm m) (h : l.Pairwise fun e f => ∀ k, kind.is k e.2 = true → kind.is k f.2 = false) : m.Pairwise fun e f => ∀ k, kind.is k e.2 = true → kind.is k f.2 = false :=
  (p.pairwise_iff (fun {e f} q k hf => by
    cases z : kind.is k e.2 with
    | false => rfl
    | true => exact absurd hf (by rw [q k z]; exact Bool.false_ne_true))).mp h
/-- laid anew for another size -/
theorem Laid.again {es : Array (Int × Value)} {t : SetTable} {S : κ → Bool} {n : Nat} (L : Laid kind es t S n) (size : Nat) : Laid kind (relayAll t es size).1 (relayAll t es size).2.1 S n where
  rows := L.rows.perm (relayAll_perm t es size)
  told k := (L.told k).trans (by constructor <;> (rintro ⟨e, he, q⟩; exact ⟨e, by first | exact (relayAll_perm t es size).mem_iff.mpr he | exact (relayAll_perm t es size).mem_iff.mp he, q⟩))
  unlike := unlike_perm (relayAll_perm t es size).symm L.unlike
  few := by rw [← Array.length_toList, (relayAll_perm t es size).length_eq, Array.length_toList]; exact L.few
  fits := relayAll_fits t es size
  count := by rw [← Array.length_toList, (relayAll_perm t es size).length_eq, Array.length_toList]; exact L.count
  rises := relayAll_ris t es size
  ledger := L.ledger.imp id fun z => by rw [relayAll_led]; exact z
/-- one more row -/
theorem Laid.more {es : Array (Int × Value)} {t : SetTable} {S : κ → Bool} {n : Nat} {k : κ} {v : Value} (L : Laid kind es t S n) (is : kind.is k v = true) (scan : v.scannable = true) (no : S k = false) (room : n + 1 < scanBound) :
    Laid kind (layNew t es (kind.hash k) v).1 (layNew t es (kind.hash k) v).2.1 (fun j => S j || decide (j = k)) (n + 1) := by
  have p := layNew_perm t es (kind.hash k) v
  rw [Array.toList_push] at p
  have size : (layNew t es (kind.hash k) v).1.size = n + 1 := by
    rw [← Array.length_toList, p.length_eq, List.length_append, Array.length_toList, L.count] <;> rfl
  exact {
    rows := (L.rows.push is scan).perm p
    told := mem_push_iff is L.told p
    unlike := unlike_perm p.symm (List.pairwise_append.mpr ⟨L.unlike, List.pairwise_singleton .., fun e he f hf j hj => by
      rw [List.mem_singleton.mp hf]
      cases z : kind.is j v with
      | false => rfl
      | true =>
        have ek := kind.inj v j k z is
        rw [ek] at hj
        exact absurd ((L.told k).mpr ⟨e, he, hj⟩) (by rw [no]; exact Bool.false_ne_true)⟩)
    few := by rw [size]; exact room
    fits := layNew_fits t es (kind.hash k) v
    count := size
    rises := layNew_ris t es (kind.hash k) v L.rises
    ledger := L.ledger.imp id fun z => by rw [layNew_led]; exact z }
/-- the table may lose its plainness -/
theorem Laid.blunt {es : Array (Int × Value)} {t : SetTable} {S : κ → Bool} {n : Nat} (L : Laid kind es t S n) : Laid kind es { t with plain := false } S n :=
  ⟨L.rows, L.told, L.unlike, L.few, SetTable.fits_plain_off L.fits, L.count, L.rises, L.ledger⟩
variable (kind) in
/-- the set at a -/
def SetL (h : Heap) (a : Addr) (S : κ → Bool) (n : Nat) : Prop := ∃ o es ep t, h.get? a = some o ∧ o.ExactSet ∧ o.data = .set es ep t ∧ Laid kind es t S n
variable {A : Around} {E : Value → Shared → Prop} {s : Shared} {a : Addr} {S : κ → Bool} {n : Nat}
theorem SetL.keep {h h' : Heap} (R : SetL kind h a S n) (k : ∀ o, h.get? a = some o → h'.get? a = some o) : SetL kind h' a S n := by
  obtain ⟨o, es, ep, t, at0, r⟩ := R
  exact ⟨o, es, ep, t, k o at0, r⟩
/-- the rows written down, and the table made anew where it is full -/
theorem written {g : Bool → Sem Unit} (quiet : ∀ (b : Bool) (s1 : Shared) (R' : Unit → Shared → Prop), R' () s1 → wpAny (model P w) A (g b) R' E s1) {o : Obj} {es es' : Array (Int × Value)} {ep : Nat} {t t' : SetTable}
    (at0 : s.heap.get? a = some o) (exact_ : o.ExactSet) (dat : o.data = .set es ep t) (L : Laid kind es' t' S n) {dummy : Bool} {R : Option Bool → Shared → Prop}
    (end_ : ∀ h', Heap.SameBut a s.heap h' → SetL kind h' a S n → R (some true) { s with heap := h' }) :
    wpAny (model P w) A (do
        storeSet a es' t'
        if (!dummy && t'.tooFull) = true then do
            g (relayAll t' es' (SetTable.grown es'.size)).2.2
            storeSet a (relayAll t' es' (SetTable.grown es'.size)).1 (relayAll t' es' (SetTable.grown es'.size)).2.1
            pure (some true)
          else pure (some true)) R E s := by
  have at1 := store_at (es' := es') (t' := t') at0 dat
  have only := Heap.SameBut.update s.heap a (Obj.putSet es' t')
  have M := L.again (SetTable.grown es'.size)
  refine wpAny_bind (wpAny_storeSet_of at0 dat ?_ (fits_of_scanBound L.few))
  split
  · exact wpAny_bind (quiet _ _ _ (wpAny_bind (wpAny_storeSet_of at1 rfl (wpAny_pure (end_ _ (only.trans (Heap.SameBut.update _ a _)) ⟨_, _, _, _, store_at at1 rfl, exact_, rfl, M⟩)) (fits_of_scanBound M.few))))
  · exact wpAny_pure (end_ _ only ⟨_, _, _, _, at1, exact_, rfl, L⟩)
theorem SetL.add {k : κ} {v : Value} (is : kind.is k v = true) (scan : v.scannable = true) {Q : Bool → Shared → Prop} (R : SetL kind s.heap a S n) (room : n + 1 < scanBound)
    (q : ∀ h', Heap.SameBut a s.heap h' → SetL kind h' a (fun j => S j || decide (j = k)) (if S k = true then n else n + 1) → Q (!S k) { s with heap := h' }) :
    wpAny (model P w) A (setAddHashed a v (kind.hash k)) Q E s := by
  obtain ⟨o, es, ep, t, at0, exact_, dat, L⟩ := R
  have silent : ∀ (b : Bool) (s1 : Shared) (R' : Unit → Shared → Prop), R' () s1 → wpAny (model P w) A (match b with | true => rule "set.scan.the-table-gave-way" | false => pure ()) R' E s1 := fun b s1 R' z => by
    cases b
    · exact wpAny_pure z
    · exact wpAny_rule z
  unfold setAddHashed setAddHashedIn
  refine wpAny_holding (wpAny_bind (wpAny_setState_of at0 dat L.fits ?_))
  dsimp only
  rw [byScan_of scan L.few L.rows, if_pos rfl]
  unfold setAddByScan
  refine wpAny_bind (wpAny_bind (wpAny_rule (wpAny_bind (wpAny_setScan_of is at0 dat L.fits L.rows ?_))))
  cases met : List.findIdx? (fun e => kind.is k e.2) es.toList with
  | some j =>
    dsimp only
    obtain ⟨hj, pj, _⟩ := List.findIdx?_eq_some_iff_getElem.mp met
    have old : S k = true := (L.told k).mpr ⟨_, List.getElem_mem hj, pj⟩
    have same : (fun j => S j || decide (j = k)) = S := funext fun j => by
      by_cases e : j = k
      · rw [e, old] <;> rfl
      · rw [decide_eq_false e, Bool.or_false]
    have z := q s.heap (Heap.SameBut.refl a s.heap)
    rw [same, if_pos old, old] at z
    exact wpAny_pure (wpAny_pure (z ⟨o, es, ep, t, at0, exact_, dat, L⟩))
  | none =>
    dsimp only
    have no : S k = false := by
      cases z : S k with
      | false => rfl
      | true =>
        obtain ⟨e, he, p⟩ := (L.told k).mp z
        have c := List.findIdx?_eq_none_iff.mp met e he
        rw [p] at c
        cases c
    have M := L.more is scan no room
    rw [if_neg (by rw [no]; exact Bool.false_ne_true), no] at q
    generalize layNew t es (kind.hash k) v = lot at M ⊢
    obtain ⟨es1, t1, dummy, gave⟩ := lot
    dsimp only at M ⊢
    refine wpAny_bind (silent _ _ _ ?_)
    split
    · refine wpAny_bind ?_
      rw [hashByValue_scannable 8 scan]
      refine wpAny_pure ?_
      refine written (fun b s1 R' z => silent b s1 R' z) at0 exact_ dat (n := n + 1) (S := fun j => S j || decide (j = k)) ?_ fun h' only R => wpAny_pure (q h' only R)
      split
      · exact M
      · exact M.blunt
    · refine wpAny_bind (wpAny_pure ?_)
      rw [if_pos rfl]
      exact written (fun b s1 R' z => silent b s1 R' z) at0 exact_ dat M fun h' only R => wpAny_pure (q h' only R)
/-- set.add of one more -/
theorem SetL.call_add {k : κ} {v : Value} (is : kind.is k v = true) (scan : v.scannable = true) {Q : Value → Shared → Prop} (R : SetL kind s.heap a S n) (room : n + 1 < scanBound)
    (q : ∀ h', Heap.SameBut a s.heap h' → SetL kind h' a (fun j => S j || decide (j = k)) (if S k = true then n else n + 1) → Q .none { s with heap := h', toks := s.toks + 1 }) :
    wpAny (model P w) A (call (.builtin "set.add") [.ref a, v]) Q E s := by
  obtain ⟨o, _, _, _, at0, exact_, _, _⟩ := id R
  refine wpAny_call_entry F.slot_set_add ⟨o, at0, exact_.1⟩ F.entry_set_add ?_ (F.args_set_add_2 _ _)
  unfold Builtin.«set.add» Builtin.Frozenset.oneOther
  simp only [List.isEmpty_nil, bind_assoc]
  unfold Builtin.Frozenset.addrOf setAdd
  refine wpAny_bind (wpAny_pure (wpAny_bind (wpAny_pure (wpAny_bind (wpAny_holding (wpAny_bind (kind.pyHash is ?_)))))))
  exact SetL.add (s := { s with toks := s.toks + 1 }) is scan R room fun h' only M => wpAny_pure ⟨_, rfl, q h' only M⟩
/-- a set as it is made -/
theorem SetL.none {h : Heap} : SetL kind (h.push { cls := .type "set", dict := none, data := .set #[] 0 (.fresh 0 0 (!w.params.followText "set-order")) }) h.objs.size (fun _ => false) 0 := by
  refine ⟨_, _, _, _, Heap.get?_push_size _ rfl, ⟨rfl, rfl, rfl⟩, rfl, nofun, fun k => ⟨nofun, nofun⟩, List.Pairwise.nil, by decide, rfl, rfl, List.Pairwise.nil, ?_⟩
  cases z : w.params.followText "set-order"
  · exact .inr rfl
  · exact .inl rfl
end
section
variable {P : Program} {w : World} {A : Around} {E : Value → Shared → Prop} {s : Shared} {a : Addr} {S : Str → Bool} {n : Nat}
theorem texts_of : ∀ (us : List Value), (∀ u ∈ us, ∃ x t, u = Value.str x t) → ∃ xs, StrsAre us xs
  | [], _ => ⟨[], .nil⟩
  | u :: us, h => by
    obtain ⟨x, t, rfl⟩ := h u List.mem_cons_self
    obtain ⟨xs, r⟩ := texts_of us fun v hv => h v (List.mem_cons_of_mem _ hv)
    exact ⟨x :: xs, .cons x t r⟩
theorem strsAre_mem : ∀ {us : List Value} {xs : List Str}, StrsAre us xs → ∀ x, x ∈ xs ↔ ∃ t, Value.str x t ∈ us
  | _, _, .nil, x => by simp
  | _, _, .cons y t r, x => by
    have ih := strsAre_mem r x
    constructor
    · intro h
      rcases List.mem_cons.mp h with e | h
      · exact ⟨t, by rw [e]; exact List.mem_cons_self⟩
      · obtain ⟨t', h⟩ := ih.mp h
        exact ⟨t', List.mem_cons_of_mem _ h⟩
    · rintro ⟨t', h⟩
      rcases List.mem_cons.mp h with e | h
      · cases e
        exact List.mem_cons_self
      · exact List.mem_cons_of_mem _ (ih.mpr ⟨t', h⟩)
/-- sorted(a set of texts): its members, rising -/
theorem sorted_texts {Q : Value → Shared → Prop} (R : SetL (PySem.strKind P w) s.heap a S n) (hh : A.handled = none) (small : n < 64)
    (q : ∀ s' p (out : Array Value) (c : Nat) (xs : List Str), (∀ b o, s.heap.get? b = some o → s'.heap.get? b = some o) → s'.gens = s.gens → s'.os = s.os → s.heap.objs.size ≤ p →
      s'.heap.get? p = some (seqObj "list" out c) → StrsAre out.toList xs → sortedS xs = true → (∀ x, x ∈ xs ↔ S x = true) → xs.length = n → Q (.ref p) s') :
    wpAny (model P w) A (call (.builtin "sorted") [.ref a]) Q E s := by
  obtain ⟨o, es, ep, t, at0, exact_, dat, L⟩ := R
  refine Calls.call_function_entry kind_sorted plain_sorted entry_sorted (args_sorted1 _) ?_
  unfold Builtin.«sorted»
  refine wpAny_bind (m := checkCount "sorted" 1 1 _) (wpAny_pure (wpAny_bind (collect_set (A := A.in1) hh ⟨o, at0, exact_.1, dat⟩ L.fits L.few L.rises L.ledger fun s1 vs k1 z1 g1 o1 pm => ?_)))
  have len : vs.length = n := by rw [pm.length_eq, List.length_map, Array.length_toList, L.count]
  obtain ⟨xs, texts⟩ := texts_of vs fun v hv => by
    obtain ⟨e, he, rfl⟩ := List.mem_map.mp (pm.mem_iff.mp hv)
    obtain ⟨⟨k, is, _⟩, _⟩ := L.rows e he
    obtain ⟨tk, ev⟩ := Value.isStrOf_shape is
    exact ⟨k, tk, ev⟩
  have members : ∀ x, x ∈ xs ↔ S x = true := fun x => by
    rw [strsAre_mem texts x, L.told x]
    constructor
    · rintro ⟨tk, h⟩
      obtain ⟨e, he, ev⟩ := List.mem_map.mp (pm.mem_iff.mp h)
      exact ⟨e, he, by rw [ev]; exact PySem.strKind_is P w x tk⟩
    · rintro ⟨e, he, is⟩
      obtain ⟨tk, ev⟩ := Value.isStrOf_shape is
      exact ⟨tk, pm.mem_iff.mpr (List.mem_map.mpr ⟨e, he, ev⟩)⟩
  refine wpAny_bind (wpAny_newList ?_ (by rw [len, sizeLine_eq]; omega))
  have made : (s1.heap.push (seqObj "list" vs.toArray 0)).get? s1.heap.objs.size = some (seqObj "list" vs.toArray 0) := Heap.get?_push_size _ rfl
  refine wpAny_bind (wpAny_holding (wpAny_call_entry slot_list_sort ⟨_, made, rfl⟩ entry_list_sort (list_sort_treeKAny PyProof.Rows.strKind_oneLt made texts.keysOf (fun v1 v2 rest e => keyKind_strs (by rw [← e]; exact texts)) (by rw [len, sizeLine_eq]; omega) fun st p r => ?_) (args_list_sort _)))
  obtain ⟨ys, h1, h2, h3⟩ := sorted_out_str texts p r
  obtain ⟨c, at1⟩ := sortedHeap_at (vs := vs) (out := (arrOf st).map (·.2)) made
  refine ⟨_, rfl, wpAny_pure ⟨_, rfl, q _ s1.heap.objs.size _ c ys (fun b u e => ?_) g1 o1 z1 at1 h1 h3 (fun x => (h2.mem_iff).trans (members x)) ?_⟩⟩
  · have z := k1 b u e
    have lt := Heap.lt_size z
    show (sortedHeap (s1.heap.push (seqObj "list" vs.toArray 0)) s1.heap.objs.size vs ((arrOf st).map (·.2))).get? b = some u
    rw [sortedHeap_old (Nat.ne_of_lt lt) (by rw [size_push']; exact Nat.lt_succ_of_lt lt)]
    exact Heap.get?_push_of_some _ z
  · rw [h2.length_eq, ← texts.len_eq, len]
end
end Xci

namespace Xci
open PySem PySem.Spec PyProof.Rows L2
/-- the set of texts at a, as a tracked thing -/
def TextsO (P : Program) (w : World) (a : Addr) (S : Str → Bool) (n : Nat) : HO := .ext fun h => SetL (PySem.strKind P w) h a S n
theorem texts_new {P : Program} {w : World} {H : Hp} {h : Heap} {a : Addr} {S : Str → Bool} {n : Nat} (R : SetL (PySem.strKind P w) h a S n) : ObjOk P w H h a (TextsO P w a S n) :=
  ⟨R, R.elim fun o z => z.elim fun _ z => z.elim fun _ z => z.elim fun _ z => ⟨o, z.1⟩, fun _ _ p k => SetL.keep p k⟩
section
variable {X : Cx}
theorem texts_get {pins : List (Addr × Obj)} {σ : L2.St} {H : Hp} {s : Shared} {a : Addr} {S : Str → Bool} {n : Nat} (I : Inv X pins σ H s) (e : H a = some (TextsO X.prog X.w a S n)) : SetL (PySem.strKind X.prog X.w) s.heap a S n := (I.hok a _ e).1
/-- one more text -/
theorem texts_add {pins : List (Addr × Obj)} {σ : L2.St} {H : Hp} {s : Shared} {E : Value → Shared → Prop} {D : Addr} {S : Str → Bool} {n : Nat} {x : Str} {t : Tok} {Q : Value → Shared → Prop} (I : Inv X pins σ H s) (e : H D = some (TextsO X.prog X.w D S n)) (room : n + 1 < scanBound)
    (q : ∀ s', Inv X pins σ (upd H D (TextsO X.prog X.w D (fun j => S j || decide (j = x)) (if S x = true then n else n + 1))) s' → Q .none s') : wpAny (model X.prog X.w) X.A (call (.builtin "set.add") [.ref D, .str x t]) Q E s :=
  SetL.call_add (PySem.strKind_is _ _ x t) rfl (texts_get I e) room fun h' only R => q _ (I.write (e := D) (t' := s.toks + 1) (by rw [e]; trivial) (.inl rfl) (fun b u hb hu => (only.2 b hb).trans hu)
    (R.elim fun o z => z.elim fun _ z => z.elim fun _ z => z.elim fun _ z => ⟨o, z.1⟩) (texts_new R))
/-- sorted(a set of texts) -/
def rSortedTexts (P : Program) (w : World) : List V → Hp → VK → Prop := fun vs H Q => ∃ (a : Addr) (S : Str → Bool) (n : Nat), vs = [V.ref a] ∧ H a = some (TextsO P w a S n) ∧ n < 64 ∧
  ∀ (xs : List Str) (p : Addr), sortedS xs = true → (∀ x, x ∈ xs ↔ S x = true) → xs.length = n → H p = none → Q (.ref p) (upd H p (.lst (xs.map V.str)))
theorem vals_texts : ∀ {us : List Value} {xs : List Str}, StrsAre us xs → Vals (xs.map V.str) us
  | _, _, .nil => .nil
  | _, _, .cons x t r => .cons ⟨t, rfl⟩ (vals_texts r)
theorem cr_sortedTexts (calm : X.calm = true) : CallR X (.builtin "sorted") (rSortedTexts X.prog X.w) := by
  intro pins s σ H vs us Q I rv told
  obtain ⟨a, S, n, rfl, at0, small, q⟩ := told
  rw [Vals.ref1 rv]
  refine sorted_texts (texts_get I at0) (I.ok.hd calm) small fun s' p out c xs kept gens os fresh at1 texts up members len => ?_
  have free : H p = none := I.hok.fresh fresh
  have short : (xs.map V.str).length ≤ sizeLine := by rw [List.length_map, len, sizeLine_eq]; omega
  have J : Inv X pins σ (upd H p (.lst (xs.map V.str))) s' := I.call' (ch := []) os (Un.laid kept fresh free) (I.hok.laid kept fresh ⟨short, out.toList, c, vals_texts texts, at1⟩) (by rw [gens]; exact I.bare) (fun _ z => nomatch z)
  exact ⟨.ref p, _, J, rfl, q xs p up members len free⟩
end
end Xci

namespace Xci
open PySem PySem.Spec PyProof.Rows L2
/-- the parts of a comprehension, read in its own block -/
structure InBlock (X : Cx) (scope : Scope) (tg : Expr) (ifs : List Expr) (elt : Expr) (g : TG) (tt : TT) (te : TE) : Prop where
  target : ∀ (s : Shared) (H : Hp) (C : Addr) (cl : List (PySem.Str × Addr)) (fp : List Addr), PG (X.blk s H scope (compEnvC scope cl C X.env) fp) tg g
  tests : ∀ (s : Shared) (H : Hp) (C : Addr) (cl : List (PySem.Str × Addr)) (fp : List Addr), PTs (X.blk s H scope (compEnvC scope cl C X.env) fp) ifs tt
  item : ∀ (s : Shared) (H : Hp) (C : Addr) (cl : List (PySem.Str × Addr)) (fp : List Addr), PE (X.blk s H scope (compEnvC scope cl C X.env) fp) elt te
/-- {text for .. in .. if ..} in N turns: D the new set -/
def tTexts (P : Program) (w : World) (wi : TI) (g : TG) (tt : TT) (te : TE) (own : List Nat) : TE := fun σ H Q => wi σ H fun J H1 => ∀ D, H1 D = none → ∃ (N : Nat) (W : Nat → Hp → Prop), W 0 (upd H1 D (TextsO P w D (fun _ => false) 0)) ∧
  (∀ H, W N H → J.stop N H ∧ Q (.ref D) H) ∧ ∀ i H, i < N → W i H → J.go i H ∧ ∀ x H', J.yld i H x H' → g x (wipe σ own) H' fun σ2 H2 => wipe σ2 own = wipe σ own ∧ tt σ2 H2 fun b H3 =>
    if b = true then te σ2 H3 fun y H4 => ∃ (c : Str) (S : Str → Bool) (n : Nat), y = .str c ∧ H4 D = some (TextsO P w D S n) ∧ n + 1 < scanBound ∧ W (i + 1) (upd H4 D (TextsO P w D (fun j => S j || decide (j = c)) (if S c = true then n else n + 1))) else W (i + 1) H3
section
variable {X : Cx} {pins : List (Addr × Obj)} {σ : L2.St} {s : Shared} {H : Hp} {elt tg iter : Expr} {ifs : List Expr} {scope : Scope} {own : List (PySem.Str × Nat)} {pos : Pos} {g : TG} {tt : TT} {te : TE} {J : It} {it D : Addr} {fp : List Addr} {tn : Nat → Heap → Prop} {N : Nat} {W : Nat → Hp → Prop} {R : Result → Shared → Prop}
/-- what holds ahead of turn i, in the block -/
def Ahead (Y : Cx) (ρ : L2.St) (tn : Nat → Heap → Prop) (fp : List Addr) (W : Nat → Hp → Prop) (i : Nat) (s : Shared) : Prop := ∃ H, Inv Y [] ρ H s ∧ tn i s.heap ∧ (∀ b ∈ fp, H b = none) ∧ W i H
set_option maxHeartbeats 1000000 in
theorem texts_turn {C : Addr} {cl : List (PySem.Str × Addr)} (calm : X.calm = true) (B : InBlock X scope tg ifs elt g tt te) (T : Turn X.prog X.w X.K tg J fp it tn)
    (step : ∀ i H, i < N → W i H → J.go i H ∧ ∀ x H', J.yld i H x H' → g x (wipe σ (own.map (·.2))) H' fun σ2 H2 => wipe σ2 (own.map (·.2)) = wipe σ (own.map (·.2)) ∧ tt σ2 H2 fun b H3 =>
      if b = true then te σ2 H3 fun y H4 => ∃ (c : Str) (S : Str → Bool) (n : Nat), y = .str c ∧ H4 D = some (TextsO X.prog X.w D S n) ∧ n + 1 < scanBound ∧ W (i + 1) (upd H4 D (TextsO X.prog X.w D (fun j => S j || decide (j = c)) (if S c = true then n else n + 1))) else W (i + 1) H3)
    {i : Nat} (hi : i < N) {s1 : Shared} (ahead : Ahead (X.blk s H scope (compEnvC scope cl C X.env) fp) (wipe σ (own.map (·.2))) tn fp W i s1) {E : Value → Shared → Prop} {Z : Shared → Prop} (next : ∀ s', Ahead (X.blk s H scope (compEnvC scope cl C X.env) fp) (wipe σ (own.map (·.2))) tn fp W (i + 1) s' → Z s') :
    wpAny (model X.prog X.w) X.A (pyNext (.ref it)) (fun r s1 => ∃ u, r = some u ∧ wpAny (model X.prog X.w) X.A (letOwnedTupleGo tg (.ref it) u) (fun _ s1' => wpAny (model X.prog X.w) X.A (assign tg (compEnvC scope cl C X.env) u) (fun _ s2 =>
      wpAny (model X.prog X.w) X.A (forIn ifs true fun c r => if r = true then do let ok ← isTrue c (compEnvC scope cl C X.env) (eval c (compEnvC scope cl C X.env)); pure (ForInStep.yield ok) else pure (ForInStep.yield r)) (fun ok s3 =>
        if ok = true then wpAny (model X.prog X.w) X.A (eval elt (compEnvC scope cl C X.env)) (fun x s4 => wpAny (model X.prog X.w) X.A (call (.builtin "set.add") [.ref D, x]) (fun _ s5 => Z s5) E s4) E s3
        else Z s3) E s2) E s1') E s1) E s1 := by
  obtain ⟨H1, I1, st, free, w1⟩ := ahead
  obtain ⟨go, yields⟩ := step i H1 hi w1
  have clear : ∀ {ρ : L2.St} {H' : Hp} {s' : Shared}, Inv (X.blk s H scope (compEnvC scope cl C X.env) fp) [] ρ H' s' → (∀ b ∈ fp, H' b = none) → ∀ b ∈ fp, FpOk (X.blk s H scope (compEnvC scope cl C X.env) fp) [] H' b := fun I' n b hb =>
    have away := I'.ok.exf b hb
    ⟨n b hb, away.1, I'.ok.exfs b hb, .inl hb, fun x c e => away.2 x c e, fun p hp => nomatch (show p ∈ ([] : List (Addr × Obj)) from hp)⟩
  refine thnF (T.item (X.blk s H scope (compEnvC scope cl C X.env) fp) rfl rfl rfl calm i [] s1 _ H1 (fun _ _ => False) I1 (clear I1 free) st go) fun r s2 ⟨u, er, stored⟩ => ⟨u, er, thnF stored fun _ s3 ⟨x, H3, I3, rx, told, st3, free3⟩ => ?_⟩
  refine thnF ((B.target s H C cl fp).run _ s3 _ H3 x u _ (I3.pinned (clear I3 free3) (T.obj _ _ st3)) rx (yields x H3 told)) fun _ s4 ⟨σ4, H4, I4, same, q4⟩ => thnF ((B.tests s H C cl fp).run _ s4 σ4 H4 _ I4 q4) fun b s5 ⟨H5, I5, q5⟩ => ?_
  have close : ∀ {s' : Shared} {H' : Hp}, Inv (X.blk s H scope (compEnvC scope cl C X.env) fp) ([] ++ pinsAt fp s3.heap) σ4 H' s' → W (i + 1) H' → Ahead (X.blk s H scope (compEnvC scope cl C X.env) fp) (wipe σ (own.map (·.2))) tn fp W (i + 1) s' := fun {s' H'} I' w' => by
    have still : ∀ b ∈ fp, ∀ o, s3.heap.get? b = some o → s'.heap.get? b = some o ∧ H' b = none := fun b hb o e => by
      have z := I'.pin (b, o) (List.mem_append_right _ (List.mem_append_right _ (mem_pinsAt hb e)))
      exact ⟨z.1, z.2.1⟩
    refine ⟨H', I'.unpinned.weak (by rw [← same, wipe_length]) fun j v e => (wipe_some (same ▸ e)).1, T.keep _ _ _ st3 fun b hb o e => (still b hb o e).1, fun b hb => ?_, w'⟩
    obtain ⟨o, e, _⟩ := T.obj _ _ st3 b hb
    exact (still b hb o e).2
  cases b with
  | false => exact next _ (close I5 q5)
  | true =>
    refine thnF ((B.item s H C cl fp).run _ s5 σ4 H5 _ I5 q5) fun z s6 ⟨y, H6, I6, rz, c, S, n, ey, at6, room, w6⟩ => ?_
    subst ey
    obtain ⟨tk, rfl⟩ : ∃ tk, z = Value.str c tk := rz
    exact texts_add (X := X.blk s H scope (compEnvC scope cl C X.env) fp) I6 at6 room fun s7 I7 => next _ (close I7 w6)
end
section
variable {X : Cx} {pins : List (Addr × Obj)} {σ : L2.St} {s : Shared} {H : Hp} {Q : VK} {elt tg iter : Expr} {ifs : List Expr} {scope : Scope} {own : List (PySem.Str × Nat)} {pos : Pos} {g : TG} {tt : TT} {te : TE} {J : It} {it D : Addr} {fp : List Addr} {tn : Nat → Heap → Prop} {N : Nat} {W : Nat → Hp → Prop}
set_option maxHeartbeats 1000000 in
/-- all turns, from the new block on -/
theorem texts_run (calm : X.calm = true) (nd : X.N.Nodup) (I : Inv X pins σ H s) (ok : BlkOk X.N X.env.scope scope own) (B : InBlock X scope tg ifs elt g tt te) (T : Turn X.prog X.w X.K tg J fp it tn)
    (free : ∀ b ∈ fp, FpOk X pins H b ∧ b < s.heap.objs.size) (st : tn 0 s.heap) (w0 : W 0 H) (ends : ∀ H, W N H → J.stop N H ∧ Q (.ref D) H)
    (step : ∀ i H, i < N → W i H → J.go i H ∧ ∀ x H', J.yld i H x H' → g x (wipe σ (own.map (·.2))) H' fun σ2 H2 => wipe σ2 (own.map (·.2)) = wipe σ (own.map (·.2)) ∧ tt σ2 H2 fun b H3 =>
      if b = true then te σ2 H3 fun y H4 => ∃ (c : Str) (S : Str → Bool) (n : Nat), y = .str c ∧ H4 D = some (TextsO X.prog X.w D S n) ∧ n + 1 < scanBound ∧ W (i + 1) (upd H4 D (TextsO X.prog X.w D (fun j => S j || decide (j = c)) (if S c = true then n else n + 1))) else W (i + 1) H3) :
    codeAny (model X.prog X.w) X.A (.compStart (.SetComp elt [⟨tg, iter, ifs, 0⟩] scope pos) 0 (.ref it) (.ref D) (compEnvC scope (cellsFrom (s.heap.objs.size + 1) scope.names (cloFrom X.env.cells scope.names [])) s.heap.objs.size X.env))
      (compPost (model X.prog X.w) X.A X.xe none (EP X pins σ Q) (.ref D) s.heap.objs.size) { s with heap := pushCells (s.heap.push { cls := .type "dict", data := .dict #[] }) scope.names } := by
  have I1 := block_start I ok nd free
  have kept : ∀ b o, s.heap.get? b = some o → (pushCells (s.heap.push { cls := .type "dict", data := .dict #[] }) scope.names).get? b = some o := fun b o e => pushCells_keeps _ _ _ _ (Heap.get?_push_of_some _ e)
  have st1 : tn 0 (pushCells (s.heap.push { cls := .type "dict", data := .dict #[] }) scope.names) := T.keep _ _ _ st fun b _ o e => kept b o e
  have loop : codeAny (model X.prog X.w) X.A (.compLoop (.SetComp elt [⟨tg, iter, ifs, 0⟩] scope pos) 0 (.ref it) (.ref D) (compEnvC scope (cellsFrom (s.heap.objs.size + 1) scope.names (cloFrom X.env.cells scope.names [])) s.heap.objs.size X.env))
      (compPost (model X.prog X.w) X.A X.xe none (EP X pins σ Q) (.ref D) s.heap.objs.size) { s with heap := pushCells (s.heap.push { cls := .type "dict", data := .dict #[] }) scope.names } := by
    refine PpSet.compLoopS_any (fun m s' => ∃ i, i + m = N ∧ Ahead (X.blk s H scope (compEnvC scope (cellsFrom (s.heap.objs.size + 1) scope.names (cloFrom X.env.cells scope.names [])) s.heap.objs.size X.env) fp) (wipe σ (own.map (·.2))) tn fp W i s') ?_ N ⟨0, Nat.zero_add N, H, I1, st1, fun b hb => (free b hb).1.1, w0⟩
    rintro m s5 ⟨i, im, ahead⟩
    by_cases more : i < N
    · refine thn (texts_turn calm B T step more ahead (Z := fun s' => ∃ m', m' < m ∧ ∃ i, i + m' = N ∧ Ahead _ _ tn fp W i s') fun s' a => ⟨m - 1, by omega, i + 1, by omega, a⟩) fun r s6 h => ?_
      obtain ⟨u, rfl, rest⟩ := h
      exact rest
    · obtain rfl : i = N := by omega
      obtain ⟨H5, I5, st5, free5, w5⟩ := ahead
      obtain ⟨stop, q⟩ := ends H5 w5
      refine thnF (T.done (X.blk s H scope (compEnvC scope (cellsFrom (s.heap.objs.size + 1) scope.names (cloFrom X.env.cells scope.names [])) s.heap.objs.size X.env) fp) rfl rfl rfl calm i [] s5 _ H5 (fun _ _ => False) I5 (fun b hb => ⟨free5 b hb, (I5.ok.exf b hb).1, I5.ok.exfs b hb, .inl hb, fun x c e => (I5.ok.exf b hb).2 x c e, fun p hp => nomatch (show p ∈ ([] : List (Addr × Obj)) from hp)⟩) st5 stop) fun r s6 h => ?_
      obtain ⟨rfl, I6⟩ := h
      have I7 : Inv X pins σ H5 s6 := I.call' (ch := fp) I6.os I6.base I6.hok I6.bare fun b hb => by
        obtain ⟨_, c1, _, c3, c4, c5⟩ := (free b hb).1
        exact ⟨c3, c1, c4, c5⟩
      have gone : H5 s.heap.objs.size = none := I6.free
      obtain ⟨m', names, _⟩ := I6.loc
      obtain ⟨c0, c1, _, c3, c4, c5⟩ := I.fpOk (Nat.le_refl _) gone
      exact ⟨m', names, fun h'' only => ⟨.ref D, H5, I7.turned (t' := s6.toks) (fun b o hb e => (only.2 b hb).trans e) c0 c1 c3 c4 c5, rfl, q⟩⟩
  exact PpSet.codeAny_compStart_set loop (T.self X.A 0 _ _ _ st1 loop)
end
set_option maxHeartbeats 1000000 in
theorem pe_texts {X : Cx} {elt tg iter : Expr} {ifs : List Expr} {scope : Scope} {own : List (PySem.Str × Nat)} {pos : Pos} {wi : TI} {g : TG} {tt : TT} {te : TE} (calm : X.calm = true) (nd : X.N.Nodup) (hi : PI X tg iter wi) (ok : BlkOk X.N X.env.scope scope own)
    (B : InBlock X scope tg ifs elt g tt te) (plain : ∀ x, foldedSetIterable iter X.env x = pure x := by intro _; rfl) : PE X (.SetComp elt [⟨tg, iter, ifs, 0⟩] scope pos) (tTexts X.prog X.w wi g tt te (own.map (·.2))) where
  run pins s σ H Q I told := by
    rw [PpSet.eval_SetComp]
    have closes : ∀ y ∈ scope.names, y.2 = .free → ∃ c, X.env.cells.lookup y.1 = some c := fun y hy e => (ok.free y hy e).elim (fun k => I.ok.has _ (.inl k)) fun k => I.ok.has _ (.inr k)
    refine wpAny_comprehension_free rfl plain (closure_ok closes) ok.kind (fun y hy e => by rw [ok.uniq y hy, e]) (thn (hi.run pins s σ H _ I told) fun _ _ comes => thn comes fun _ s2 ⟨it, fp, tn, J, H2, eit, I2, T, st2, free2, turns⟩ => ?_)
    subst eit
    refine PpSet.newSet_ok (newEnv_comp ?_)
    have unused : H2 s2.heap.objs.size = none := I2.hok.fresh (Nat.le_refl _)
    obtain ⟨N, W, w0, ends, step⟩ := turns _ unused
    have below : ∀ b ∈ fp, b < s2.heap.objs.size := fun b hb => (T.obj _ _ st2 b hb).elim fun o z => Heap.lt_size z.1
    have I3 := I2.laid (t' := s2.toks) (fun b o e => Heap.get?_push_of_some _ e) (Nat.le_refl _) (texts_new (P := X.prog) (w := X.w) SetL.none)
    exact texts_run calm nd I3 ok B T (fun b hb => ⟨⟨by rw [upd_ne (Nat.ne_of_lt (below b hb))]; exact (free2 b hb).1, (free2 b hb).2⟩, by show b < (s2.heap.push _).objs.size; rw [Heap.size_push]; exact Nat.lt_succ_of_lt (below b hb)⟩)
      (T.keep _ _ _ st2 fun b _ o e => Heap.get?_push_of_some _ e) w0 ends step
end Xci

namespace Xci
open PySem L2
def top (i : Nat) : Stmt := PySem.Challenge.pw_sameforms_k03_sayings_refused.main.body.getD i (.Pass ⟨0, 0, 0, 0⟩)
end Xci

namespace Xci
open PySem L2
/-! ### data and promises of the law's draws -/
def Sq (K : PySem.W.Frag) (H : Hp) (p : Addr) (xs : List V) : Prop := SqL K H p xs ∨ SqT K H p xs
theorem Sq.fr {K : PySem.W.Frag} {a p : Addr} {H H' : Hp} {xs : List V} (s : Sq K H p xs) (f : Fr a H H') (n : p ≠ a) : Sq K H' p xs := by
  rcases s with ((h | ⟨o, h⟩) | h) | ((h | ⟨o, h⟩) | h)
  · exact .inl (.inl (.inl (f _ _ h n)))
  · exact .inl (.inl (.inr ⟨o, f _ _ h n⟩))
  · exact .inl (.inr h)
  · exact .inr (.inl (.inl (f _ _ h n)))
  · exact .inr (.inl (.inr ⟨o, f _ _ h n⟩))
  · exact .inr (.inr h)
theorem Sq.tup {K : PySem.W.Frag} {H : Hp} {p : Addr} {xs : List V} (h : H p = some (.tup xs)) : Sq K H p xs := .inr (.inl (.inl h))
theorem Sq.lst {K : PySem.W.Frag} {H : Hp} {p : Addr} {xs : List V} (h : H p = some (.lst xs)) : Sq K H p xs := .inl (.inl (.inl h))
theorem sqT {K : PySem.W.Frag} {H : Hp} {p : Addr} {xs : List V} (h : H p = some (.tup xs)) : SqT K H p xs := .inl (.inl h)
theorem sqT_same {K : PySem.W.Frag} {H H' : Hp} {p : Addr} {xs : List V} (s : SqT K H p xs) (f : Same H H') : SqT K H' p xs := by
  rcases s with (h | ⟨o, h⟩) | h
  · exact .inl (.inl (f _ _ h))
  · exact .inl (.inr ⟨o, f _ _ h⟩)
  · exact .inr h
/-- tracked: a list or a tuple of xs at p -/
def Sq0 (H : Hp) (p : Addr) (xs : List V) : Prop := H p = some (.lst xs) ∨ H p = some (.tup xs)
theorem Sq0.fr {a p : Addr} {H H' : Hp} {xs : List V} (s : Sq0 H p xs) (f : Fr a H H') (n : p ≠ a) : Sq0 H' p xs := s.imp (fun h => f _ _ h n) (fun h => f _ _ h n)
theorem Sq0.same {p : Addr} {H H' : Hp} {xs : List V} (s : Sq0 H p xs) (f : Same H H') : Sq0 H' p xs := s.imp (fun h => f _ _ h) (fun h => f _ _ h)
theorem Sq0.put {p q : Addr} {H : Hp} {o : HO} {xs : List V} (s : Sq0 H p xs) (n : p ≠ q) : Sq0 (upd H q o) p xs := s.imp (fun h => by rw [upd_ne n]; exact h) (fun h => by rw [upd_ne n]; exact h)
theorem Sq0.sq {K : PySem.W.Frag} {p : Addr} {H : Hp} {xs : List V} (s : Sq0 H p xs) : Sq K H p xs := s.elim Sq.lst Sq.tup
theorem Sq0.ne {p q : Addr} {H : Hp} {xs : List V} (s : Sq0 H p xs) (h : H q = Option.none) : p ≠ q := s.elim (fun e => ne_of_none e h) (fun e => ne_of_none e h)
structure WordOk (z : Str) : Prop where
  lo : 1 ≤ z.length
  hi : z.length ≤ 8
  az : ∀ c ∈ z.cps.toList, 97 ≤ c ∧ c ≤ 122
structure MarksOk (n : Int) (ms : List Int) : Prop where
  up : ms.Pairwise (· < ·)
  lo : ∀ m ∈ ms, 0 ≤ m
  hi : ∀ m ∈ ms, m < n
theorem MarksOk.sub {n : Int} {ms ks : List Int} (h : MarksOk n ms) (s : ks.Sublist ms) : MarksOk n ks := ⟨h.up.sublist s, fun m q => h.lo m (s.subset q), fun m q => h.hi m (s.subset q)⟩
theorem MarksOk.le {n n' : Int} {ms : List Int} (h : MarksOk n ms) (l : n ≤ n') : MarksOk n' ms := ⟨h.up, h.lo, fun m q => by have := h.hi m q; omega⟩
/-- v is a tuple of the ints ms -/
abbrev Mk (H : Hp) (v : V) (ms : List Int) : Prop := Tup H v (ms.map V.int)
theorem Mk.keep {H H' : Hp} {v : V} {ms : List Int} (f : TFr H H') (t : Xci.Mk H v ms) : Xci.Mk H' v ms := Tup.keep f t
/-- the tuples of ints vs -/
abbrev Mks (H : Hp) (vs : List V) (cs : List (List Int)) : Prop := Paired (fun v ms => Xci.Mk H v ms) vs cs
theorem Mks.keep {H H' : Hp} {vs : List V} {cs : List (List Int)} (f : TFr H H') (t : Mks H vs cs) : Mks H' vs cs := Paired.mapP t fun _ _ h => Tup.keep f h
theorem Paired.get {α β : Type} {F : α → β → Prop} : ∀ {xs : List α} {ys : List β} {i : Nat} {x : α}, Paired F xs ys → xs[i]? = some x → ∃ y, ys[i]? = some y ∧ F x y
  | _, _, _, _, .nil, e => by simp at e
  | _, _, 0, _, .cons r _, e => by simp at e; subst e; exact ⟨_, rfl, r⟩
  | _, _, i + 1, x, .cons _ t, e => by
    obtain ⟨u, h1, h2⟩ := Paired.get (i := i) (x := x) t (by simpa using e)
    exact ⟨u, by simpa using h1, h2⟩
theorem Paired.get' {α β : Type} {F : α → β → Prop} : ∀ {xs : List α} {ys : List β} {i : Nat} {y : β}, Paired F xs ys → ys[i]? = some y → ∃ x, xs[i]? = some x ∧ F x y
  | _, _, _, _, .nil, e => by simp at e
  | _, _, 0, _, .cons r _, e => by simp at e; subst e; exact ⟨_, rfl, r⟩
  | _, _, i + 1, x, .cons _ t, e => by
    obtain ⟨u, h1, h2⟩ := Paired.get' (i := i) (y := x) t (by simpa using e)
    exact ⟨u, by simpa using h1, h2⟩
theorem Paired.app {α β : Type} {F : α → β → Prop} : ∀ {xs xs' : List α} {ys ys' : List β}, Paired F xs ys → Paired F xs' ys' → Paired F (xs ++ xs') (ys ++ ys')
  | _, _, _, _, .nil, s => s
  | _, _, _, _, .cons r t, s => .cons r (Paired.app t s)
theorem Paired.one {α β : Type} {F : α → β → Prop} {x : α} {y : β} (h : F x y) : Paired F [x] [y] := .cons h .nil
theorem Paired.take {α β : Type} {F : α → β → Prop} : ∀ {xs : List α} {ys : List β} (n : Nat), Paired F xs ys → Paired F (xs.take n) (ys.take n)
  | _, _, 0, _ => .nil
  | _, _, _ + 1, .nil => .nil
  | _, _, n + 1, .cons r t => .cons r (Paired.take n t)
theorem Paired.perm {α β : Type} {F : α → β → Prop} {xs xs' : List α} (p : xs'.Perm xs) : ∀ {ys : List β}, Paired F xs ys → ∃ ys', Paired F xs' ys' ∧ ys'.Perm ys := by
  induction p with
  | nil => intro ys h; exact ⟨ys, h, .refl _⟩
  | cons x _ ih =>
    intro ys h
    cases h with
    | cons r t =>
      obtain ⟨ys', h', p'⟩ := ih t
      exact ⟨_, .cons r h', p'.cons _⟩
  | swap x y l =>
    intro ys h
    cases h with
    | cons r t =>
      cases t with
      | cons r' t' => exact ⟨_, .cons r' (.cons r t'), .swap _ _ _⟩
  | trans _ _ ih1 ih2 =>
    intro ys h
    obtain ⟨y1, h1, p1⟩ := ih2 h
    obtain ⟨y2, h2, p2⟩ := ih1 h1
    exact ⟨y2, h2, p2.trans p1⟩
/-- the rest of a list, by the removal of one -/
theorem perm_erase {α : Type} : ∀ {xs : List α} {k : Nat} {y : α}, xs[k]? = some y → (xs.eraseIdx k ++ [y]).Perm xs
  | [], _, _, h => by simp at h
  | a :: r, 0, y, h => by
    have e : a = y := Option.some.inj h
    subst e
    exact List.perm_append_singleton _ _
  | a :: r, k + 1, y, h => by
    have ih := perm_erase (xs := r) (k := k) (y := y) h
    exact ih.cons a
def lots (ns : List Int) : List (List Int) := ns.foldl (fun acc x => acc ++ acc.map (· ++ [x])) [[]]
theorem lots_snoc (ns : List Int) (x : Int) : lots (ns ++ [x]) = lots ns ++ (lots ns).map (· ++ [x]) := by
  unfold lots
  rw [List.foldl_append]
  rfl
theorem snoc_ind {α : Type} {M : List α → Prop} (h0 : M []) (h1 : ∀ l x, M l → M (l ++ [x])) : ∀ l, M l := by
  have : ∀ l : List α, M l.reverse := by
    intro l
    induction l with
    | nil => exact h0
    | cons x l ih => rw [List.reverse_cons]; exact h1 _ _ ih
  intro l
  have q := this l.reverse
  rw [List.reverse_reverse] at q
  exact q
theorem lots_len (ns : List Int) : (lots ns).length = 2 ^ ns.length := by
  refine snoc_ind (M := fun ns => (lots ns).length = 2 ^ ns.length) rfl (fun l x ih => ?_) ns
  rw [lots_snoc, List.length_append, List.length_map, List.length_append, ih, List.length_singleton, Nat.pow_succ]
  omega
theorem lots_sub {ns ms : List Int} : ms ∈ lots ns → ms.Sublist ns := by
  refine snoc_ind (M := fun ns => ∀ ms, ms ∈ lots ns → ms.Sublist ns) (fun ms h => ?_) (fun l x ih ms h => ?_) ns ms
  · have : ms = [] := by simpa [lots] using h
    subst this
    exact .slnil
  · rw [lots_snoc] at h
    rcases List.mem_append.mp h with h | h
    · exact (ih ms h).trans (List.sublist_append_left _ _)
    · obtain ⟨k, hk, rfl⟩ := List.mem_map.mp h
      exact (ih k hk).append_right _
theorem lots_nd {ns : List Int} (h : ns.Nodup) : (lots ns).Nodup := by
  revert h
  refine snoc_ind (M := fun ns => ns.Nodup → (lots ns).Nodup) (fun _ => by decide) (fun l x ih h => ?_) ns
  obtain ⟨h1, _, h3⟩ := List.nodup_append.mp h
  rw [lots_snoc]
  refine List.nodup_append.mpr ⟨ih h1, ?_, fun a ha b hb e => ?_⟩
  · unfold List.Nodup
    rw [List.pairwise_map]
    exact (ih h1).imp fun n e => n (List.append_cancel_right e)
  · obtain ⟨k, hk, rfl⟩ := List.mem_map.mp hb
    subst e
    have : x ∈ l := (lots_sub ha).subset (by simp)
    exact h3 x this x (by simp) rfl
def spDeck (K : PySem.W.Frag) : Sp := fun vs H Q _ => ∃ (a : Addr) (ns : List Int), vs = [.ref a] ∧ SqL K H a (ns.map V.int) ∧ ns.length ≤ 63 ∧ ∀ (d l : Addr) (H' : Hp), Deck H' d l → Same H H' → Q (.ref d) H'
def spMixed (K : PySem.W.Frag) : Sp := fun vs H Q _ => ∃ (a l p : Addr) (xs : List V), vs = [.ref a, .ref p] ∧ Deck H a l ∧ Sq K H p xs ∧ xs.length ≤ 1000 ∧
  ∀ (q : Addr) (ys : List V) (H' : Hp), ys.Perm xs → H' q = some (.lst ys) → H q = Option.none → Deck H' a l → Fr a H H' → Q (.ref q) H'
def spWord : Sp := fun vs H Q _ => ∃ a l : Addr, vs = [.ref a] ∧ Deck H a l ∧ ∀ (z : Str) (H' : Hp), WordOk z → Deck H' a l → Fr a H H' → Q (.str z) H'
def spWords : Sp := fun vs H Q _ => ∃ (a l : Addr) (m : Int), vs = [.ref a, .int m] ∧ Deck H a l ∧ 0 < m ∧ m ≤ 1000 ∧
  ∀ (q : Addr) (zs : List Str) (H' : Hp), zs ≠ [] → (zs.length : Int) ≤ m → zs.Nodup → (∀ z ∈ zs, WordOk z) → H' q = some (.lst (zs.map V.str)) → H q = Option.none → Deck H' a l → Fr a H H' → Q (.ref q) H'
def spLots (K : PySem.W.Frag) : Sp := fun vs H Q _ => ∃ (p : Addr) (ns : List Int), vs = [.ref p] ∧ SqT K H p (ns.map V.int) ∧ ns.length ≤ 6 ∧
  ∀ (q : Addr) (ys : List V) (H' : Hp), H' q = some (.lst ys) → Mks H' ys (lots ns) → Same H H' → H q = Option.none → Q (.ref q) H'
structure FamOk (many : Int) (cells : List (List Int)) : Prop where
  lo : 0 ≤ many
  hi : many ≤ 6
  ne : cells ≠ []
  len : cells.length ≤ 24
  nd : cells.Nodup
  ok : ∀ c ∈ cells, MarksOk many c
def spFamily : Sp := fun vs H Q _ => ∃ a l : Addr, vs = [.ref a] ∧ Deck H a l ∧
  ∀ (v : V) (p : Addr) (many : Int) (ys : List V) (cells : List (List Int)) (H' : Hp), Tup H' v [.int many, .ref p] → H' p = some (.tup ys) → Mks H' ys cells → FamOk many cells → Deck H' a l → Fr a H H' → Q v H'
def spMarks (K : PySem.W.Frag) : Sp := fun vs H Q _ => ∃ (a l p : Addr) (ys : List V) (cells : List (List Int)), vs = [.ref a, .ref p] ∧ Deck H a l ∧ p ≠ a ∧ Sq0 H p ys ∧ Mks H ys cells ∧ cells ≠ [] ∧ cells.length ≤ 1000 ∧ (∀ c ∈ cells, MarksOk 6 c) ∧
  ∀ (v : V) (ms : List Int) (H' : Hp), Xci.Mk H' v ms → MarksOk 6 ms → Deck H' a l → Fr a H H' → Q v H'
abbrev Ent : Type := List Int × Str
def EntV (H : Hp) (v : V) (e : Ent) : Prop := ∃ u, Tup H v [u, .str e.2] ∧ Xci.Mk H u e.1
theorem EntV.keep {H H' : Hp} {v : V} {e : Ent} (f : TFr H H') (t : EntV H v e) : EntV H' v e := by
  obtain ⟨u, h, g⟩ := t
  exact ⟨u, h.keep f, Tup.keep f g⟩
structure EntOk (e : Ent) : Prop where
  ms : MarksOk 6 e.1
  w : WordOk e.2
abbrev Ents (H : Hp) (vs : List V) (es : List Ent) : Prop := Paired (fun v e => EntV H v e) vs es
theorem Ents.keep {H H' : Hp} {vs : List V} {es : List Ent} (f : TFr H H') (t : Ents H vs es) : Ents H' vs es := Paired.mapP t fun _ _ h => EntV.keep f h
def spEntries (K : PySem.W.Frag) : Sp := fun vs H Q _ => ∃ (a l p q : Addr) (ys : List V) (cells : List (List Int)) (zs : List Str) (m : Int), vs = [.ref a, .ref p, .ref q, .int m] ∧ Deck H a l ∧ p ≠ a ∧ Sq0 H p ys ∧ Mks H ys cells ∧ cells ≠ [] ∧ cells.length ≤ 1000 ∧ (∀ c ∈ cells, MarksOk 6 c) ∧
  H q = some (.lst (zs.map V.str)) ∧ q ≠ a ∧ zs ≠ [] ∧ zs.length ≤ 1000 ∧ (∀ z ∈ zs, WordOk z) ∧ 0 ≤ m ∧ m ≤ 1000 ∧
  ∀ (r : Addr) (vs' : List V) (es : List Ent) (H' : Hp), H' r = some (.tup vs') → Ents H' vs' es → (es.length : Int) ≤ m → (∀ e ∈ es, EntOk e) → Deck H' a l → Fr a H H' → Q (.ref r) H'
theorem int_of {ns : List Int} {i : Nat} {y : V} (h : (ns.map V.int)[i]? = some y) : ∃ z, ns[i]? = some z ∧ y = V.int z := by
  rw [List.getElem?_map] at h
  cases e : ns[i]? with
  | none => rw [e] at h; cases h
  | some z => rw [e] at h; exact ⟨z, rfl, (Option.some.inj h).symm⟩
theorem mod_bd (x : Int) {m : Int} (h : 0 < m) : 0 ≤ x % m ∧ x % m < m := ⟨Int.emod_nonneg _ (by omega), Int.emod_lt_of_pos _ h⟩
theorem cut63 (ns : List Int) : cutV (ns.map V.int) none (some 63) = (ns.take 63).map V.int := by
  unfold cutV
  have e0 : HT.sIx (ns.map V.int).length 0 none = 0 := rfl
  rw [e0]
  have e1 : HT.sIx (ns.map V.int).length (ns.map V.int).length (some 63) = min 63 ns.length := by
    unfold HT.sIx
    simp
    try omega
  rw [e1, List.drop_zero, List.map_take]
  simp only [Nat.sub_zero]
  rw [Nat.min_comm]
  by_cases h : ns.length ≤ 63
  · rw [Nat.min_eq_left h, List.take_of_length_le (by simp), List.take_of_length_le (by simpa using h)]
  · rw [Nat.min_eq_right (by omega)]

def inside (ms ns : List Int) : Bool := ms.all fun m => decide (m ∈ ns)
theorem asc_len {n : Int} : ∀ {ms : List Int} {lo : Int}, ms.Pairwise (· < ·) → (∀ m ∈ ms, lo ≤ m ∧ m < n) → ms.length ≤ (n - lo).toNat
  | [], _, _, _ => Nat.zero_le _
  | m :: r, lo, hp, hb => by
    obtain ⟨h1, h2⟩ := List.pairwise_cons.mp hp
    have b := hb m (by simp)
    have ih := asc_len (n := n) (ms := r) (lo := m + 1) h2 fun k hk => ⟨by have := h1 k hk; omega, (hb k (List.mem_cons_of_mem _ hk)).2⟩
    rw [List.length_cons]
    omega
theorem MarksOk.len {n : Int} {ms : List Int} (h : MarksOk n ms) : ms.length ≤ n.toNat := by
  have := asc_len (n := n) (lo := 0) h.up fun m hm => ⟨h.lo m hm, h.hi m hm⟩
  simpa using this
theorem inV_int (m : Int) (ns : List Int) : inV (.int m) (ns.map V.int) = decide (m ∈ ns) := by
  unfold inV
  rw [List.any_map]
  induction ns with
  | nil => rfl
  | cons a r ih =>
    rw [List.any_cons, ih]
    show ((a == m) || decide (m ∈ r)) = decide (m ∈ a :: r)
    by_cases h : a = m
    · subst h; simp
    · have h' : ¬ m = a := fun e => h e.symm
      simp [h, h']
theorem inV_str (m : Str) (ns : List Str) : inV (.str m) (ns.map V.str) = decide (m ∈ ns) := by
  unfold inV
  rw [List.any_map]
  induction ns with
  | nil => rfl
  | cons a r ih =>
    rw [List.any_cons, ih]
    show ((a == m) || decide (m ∈ r)) = decide (m ∈ a :: r)
    by_cases h : a = m
    · subst h; simp
    · have h' : ¬ m = a := fun e => h e.symm
      simp [h, h']
theorem flat_ints (ns : List Int) : (ns.map V.int).all flatV = true := by
  rw [List.all_map]; exact List.all_eq_true.mpr fun _ _ => rfl
theorem flat_strs (ns : List Str) : (ns.map V.str).all flatV = true := by
  rw [List.all_map]; exact List.all_eq_true.mpr fun _ _ => rfl
theorem str_of {ns : List Str} {i : Nat} {y : V} (h : (ns.map V.str)[i]? = some y) : ∃ z, ns[i]? = some z ∧ y = V.str z := by
  rw [List.getElem?_map] at h
  cases e : ns[i]? with
  | none => rw [e] at h; cases h
  | some z => rw [e] at h; exact ⟨z, rfl, (Option.some.inj h).symm⟩
def rng (n : Int) : List Int := (List.range n.toNat).map fun i => ((i : Nat) : Int)
theorem rgV_rng (n : Int) : rgV 0 n = (rng n).map V.int := by
  unfold rgV rng
  rw [List.map_map, Int.sub_zero]
  refine List.map_congr_left fun i _ => ?_
  show V.int (0 + (i : Nat)) = V.int (i : Nat)
  rw [Int.zero_add]
theorem rng_len (n : Int) : (rng n).length = n.toNat := by unfold rng; rw [List.length_map, List.length_range]
theorem rng_ok (n : Int) : MarksOk n (rng n) := by
  refine ⟨?_, fun m hm => ?_, fun m hm => ?_⟩
  · unfold rng
    rw [List.pairwise_map]
    exact List.pairwise_lt_range.imp fun h => by omega
  · obtain ⟨i, hi, rfl⟩ := List.mem_map.mp hm
    omega
  · obtain ⟨i, hi, rfl⟩ := List.mem_map.mp hm
    have := List.mem_range.mp hi
    omega
theorem MarksOk.nd {n : Int} {ms : List Int} (h : MarksOk n ms) : ms.Nodup := h.up.imp fun h e => by omega
def spIn : Sp := fun vs H Q _ => ∃ (u v : V) (ms ns : List Int), vs = [u, v] ∧ Xci.Mk H u ms ∧ Xci.Mk H v ns ∧ ms.length ≤ 1000 ∧ ∀ H', Same H H' → Q (.bl (inside ms ns)) H'
end Xci

namespace Xci
open PySem L2
/-! ### books -/
/-- the numbers that the top has written -/
structure Cst (mg : Str → Option Value) where
  t1 : Tok
  t2 : Tok
  t3 : Tok
  t4 : Tok
  LONGEST_FORM : mg "LONGEST_FORM" = some (.int 8 t1)
  MARKS : mg "MARKS" = some (.int 6 t2)
  MOST_ENTRIES : mg "MOST_ENTRIES" = some (.int 40 t3)
  MOST_WEIGHT : mg "MOST_WEIGHT" = some (.int 1000000 t4)
/-- the class Book, the tuple of the manners -/
structure BkTxt (K : PySem.W.Frag) (mg : Str → Option Value) (C aM : Addr) : Prop where
  cl : Cls K C
  nM : NoAttr K C "manner"
  nE : NoAttr K C "entries"
  nW : NoAttr K C "weights"
  mgC : mg "Book" = some (.ref C)
  mgM : mg "MANNERS" = some (.ref aM)
  man : ∀ H : Hp, SqT K H aM [.str "row", .str "within", .str "weights", .str "most"]
def bf (man : Str) (p : Addr) (wt : V) : List (Str × V) := [("manner", .str man), ("entries", .ref p), ("weights", wt)]
theorem n_me : ¬ (("manner" : Str) = "entries") := by decide +kernel
theorem n_mw : ¬ (("manner" : Str) = "weights") := by decide +kernel
theorem n_ew : ¬ (("entries" : Str) = "weights") := by decide +kernel
theorem n_em : ¬ (("entries" : Str) = "manner") := by decide +kernel
theorem n_wm : ¬ (("weights" : Str) = "manner") := by decide +kernel
theorem n_we : ¬ (("weights" : Str) = "entries") := by decide +kernel
theorem put1 (v : V) : putF "manner" v [] = [(("manner" : Str), v)] := rfl
theorem put2 (v u : V) : putF "entries" u [(("manner" : Str), v)] = [(("manner" : Str), v), (("entries" : Str), u)] := by
  show (if ("manner" : Str) = "entries" then _ else (("manner" : Str), v) :: putF "entries" u []) = _
  rw [if_neg n_me]; rfl
theorem put3 (v u x : V) : putF "weights" x [(("manner" : Str), v), (("entries" : Str), u)] = [(("manner" : Str), v), (("entries" : Str), u), (("weights" : Str), x)] := by
  show (if ("manner" : Str) = "weights" then _ else (("manner" : Str), v) :: (if ("entries" : Str) = "weights" then _ else (("entries" : Str), u) :: putF "weights" x [])) = _
  rw [if_neg n_mw, if_neg n_ew]; rfl
theorem bf_manner (man : Str) (p : Addr) (wt : V) : (bf man p wt).lookup ("manner" : Str) = some (.str man) := by
  unfold bf
  rw [List.lookup_cons, show ((Str.ofString "manner" : Str) == Str.ofString "manner") = true from by decide +kernel]
theorem bf_entries (man : Str) (p : Addr) (wt : V) : (bf man p wt).lookup ("entries" : Str) = some (.ref p) := by
  unfold bf
  rw [List.lookup_cons, show ((Str.ofString "entries" : Str) == Str.ofString "manner") = false from by decide +kernel]
  rfl
theorem bf_weights (man : Str) (p : Addr) (wt : V) : (bf man p wt).lookup ("weights" : Str) = some wt := by
  unfold bf
  rw [List.lookup_cons, show ((Str.ofString "weights" : Str) == Str.ofString "manner") = false from by decide +kernel, List.lookup_cons, show ((Str.ofString "weights" : Str) == Str.ofString "entries") = false from by decide +kernel]
  rfl
def BookAt (C : Addr) (H : Hp) (b : Addr) (man : Str) (p : Addr) (wt : V) : Prop := ∃ dx, H b = some (.ins C dx (bf man p wt))
/-- the weights that go with the manner -/
def WtOk (H : Hp) (man : Str) (wt : V) : Prop := (man ≠ "weights" ∧ wt = .non) ∨ (man = "weights" ∧ ∃ ws : List Int, Xci.Mk H wt ws ∧ ws.length = 6 ∧ ∀ x ∈ ws, 0 ≤ x ∧ x ≤ 1000000)
theorem WtOk.keep {H H' : Hp} {man : Str} {wt : V} (f : TFr H H') (h : WtOk H man wt) : WtOk H' man wt := by
  rcases h with h | ⟨e, ws, m, r⟩
  · exact .inl h
  · exact .inr ⟨e, ws, Tup.keep f m, r⟩
def Man (man : Str) : Prop := man = "row" ∨ man = "within" ∨ man = "weights" ∨ man = "most"
def spIsInteger : Sp := fun vs H Q _ => ∃ i : Int, vs = [.int i] ∧ Q (.bl true) H
def spBetween : Sp := fun vs H Q _ => ∃ lo hi x : Int, vs = [.int lo, .int hi, .int x] ∧ Q (.bl (decide (lo ≤ x ∧ x ≤ hi))) H
def spIsCell : Sp := fun vs H Q _ => ∃ (n : Int) (v : V) (ms : List Int), vs = [.int n, v] ∧ Xci.Mk H v ms ∧ MarksOk n ms ∧ Q (.bl true) H
def spIsForm : Sp := fun vs H Q _ => ∃ z : Str, vs = [.str z] ∧ WordOk z ∧ Q (.bl true) H
def spLies : Sp := fun vs H Q _ => ∃ (u v : V) (ms ns : List Int), vs = [u, v] ∧ Xci.Mk H u ms ∧ Xci.Mk H v ns ∧ Q (.bl (inside ms ns)) H
def spIsEntry : Sp := fun vs H Q _ => ∃ (v : V) (e : Ent), vs = [v] ∧ EntV H v e ∧ EntOk e ∧ Q (.bl true) H
def spAreEntries : Sp := fun vs H Q _ => ∃ (p : Addr) (ys : List V) (es : List Ent), vs = [.ref p] ∧ H p = some (.tup ys) ∧ Ents H ys es ∧ (∀ e ∈ es, EntOk e) ∧ es.length ≤ 40 ∧ Q (.bl true) H
def spAreWeights : Sp := fun vs H Q _ => ∃ (man : Str) (wt : V), vs = [.str man, wt] ∧ WtOk H man wt ∧ Q (.bl true) H
def spBook (C : Addr) : Sp := fun vs H Q _ => ∃ (x dx : Addr) (man : Str) (p : Addr) (wt : V) (ys : List V) (es : List Ent), vs = [.ref x, .str man, .ref p, wt] ∧ H x = some (.ins C dx []) ∧ Man man ∧ WtOk H man wt ∧ H p = some (.tup ys) ∧ Ents H ys es ∧ (∀ e ∈ es, EntOk e) ∧ es.length ≤ 40 ∧
  ∀ H' : Hp, BookAt C H' x man p wt → (∀ b o, H b = some o → b ≠ x → H' b = some o) → Q .non H'
/-- the entries that fit a cell, by their numbers -/
def fitP (es : List Ent) (ms : List Int) (i : Nat) : Bool := match es[i]? with
  | some e => inside e.1 ms
  | none => false
def fitN (es : List Ent) (ms : List Int) : List Nat := (List.range es.length).filter (fitP es ms)
def nat2 (js : List Nat) : List Int := js.map fun j => ((j : Nat) : Int)
def spFits (K : PySem.W.Frag) : Sp := fun vs H Q _ => ∃ (p : Addr) (v : V) (ys : List V) (es : List Ent) (ms : List Int), vs = [.ref p, v] ∧ H p = some (.tup ys) ∧ Ents H ys es ∧ (∀ e ∈ es, EntOk e) ∧ es.length ≤ 1000 ∧ Xci.Mk H v ms ∧
  ∀ (q : Addr) (H' : Hp), H' q = some (.lst ((nat2 (fitN es ms)).map V.int)) → Same H H' → Q (.ref q) H'
def spFitting (C : Addr) : Sp := fun vs H Q _ => ∃ (b p : Addr) (man : Str) (wt v : V) (ys : List V) (es : List Ent) (ms : List Int), vs = [.ref b, v] ∧ BookAt C H b man p wt ∧ H p = some (.tup ys) ∧ Ents H ys es ∧ (∀ e ∈ es, EntOk e) ∧ es.length ≤ 40 ∧ Xci.Mk H v ms ∧ MarksOk 6 ms ∧
  ∀ (q : Addr) (H' : Hp), H' q = some (.tup ((nat2 (fitN es ms)).map V.int)) → Same H H' → Q (.ref q) H'
def hd1 : List Nat → V
  | [] => .non
  | j :: _ => .int (j : Int)
def spSpeakingRow (C : Addr) : Sp := fun vs H Q _ => ∃ (b p q : Addr) (wt : V) (js : List Nat), vs = [.ref b, .ref q] ∧ BookAt C H b "row" p wt ∧ H q = some (.tup ((nat2 js).map V.int)) ∧ Q (hd1 js) H
def spk : List Nat → List V
  | [] => [.str "none"]
  | j :: _ => [.str "entry", .int (j : Int)]
def spSpeakerRow (C : Addr) : Sp := fun vs H Q _ => ∃ (b p : Addr) (wt v : V) (ys : List V) (es : List Ent) (ms : List Int), vs = [.ref b, v] ∧ BookAt C H b "row" p wt ∧ H p = some (.tup ys) ∧ Ents H ys es ∧ (∀ e ∈ es, EntOk e) ∧ es.length ≤ 40 ∧ Xci.Mk H v ms ∧ MarksOk 6 ms ∧
  ∀ (u : V) (H' : Hp), Tup H' u (spk (fitN es ms)) → Same H H' → Q u H'
def spSpeaksRow (K : PySem.W.Frag) : Sp := fun vs H Q _ => ∃ (p : Addr) (v : V) (ys : List V) (es : List Ent) (ms : List Int), vs = [.str "row", .ref p, .non, v] ∧ H p = some (.tup ys) ∧ Ents H ys es ∧ (∀ e ∈ es, EntOk e) ∧ es.length ≤ 1000 ∧ Xci.Mk H v ms ∧
  ∀ (u : V) (H' : Hp), Tup H' u (spk (fitN es ms)) → Same H H' → Q u H'
def flat0 : V → Bool
  | .int _ => true
  | .str _ => true
  | _ => false
def spLike0 : Sp := fun vs H Q _ => ∃ x : V, vs = [x, x] ∧ flat0 x = true ∧ ∀ H', Same H H' → Q (.bl true) H'
def spLike1 : Sp := fun vs H Q _ => ∃ (u v : V) (xs : List V), vs = [u, v] ∧ Tup H u xs ∧ Tup H v xs ∧ xs.all flat0 = true ∧ xs.length ≤ 1000 ∧ ∀ H', Same H H' → Q (.bl true) H'
theorem fit_take (es : List Ent) (ms : List Int) (i : Nat) : (List.range (i + 1)).filter (fitP es ms) = (List.range i).filter (fitP es ms) ++ if fitP es ms i = true then [i] else [] := by
  rw [List.range_succ, List.filter_append, List.filter_cons, List.filter_nil]
theorem nat2_app (xs ys : List Nat) : nat2 (xs ++ ys) = nat2 xs ++ nat2 ys := List.map_append
theorem fitP_at {es : List Ent} {ms : List Int} {i : Nat} {e : Ent} (h : es[i]? = some e) : fitP es ms i = inside e.1 ms := by unfold fitP; rw [h]
theorem fit_len (es : List Ent) (ms : List Int) (i : Nat) : (nat2 ((List.range i).filter (fitP es ms))).length ≤ i := by
  unfold nat2
  rw [List.length_map]
  exact Nat.le_trans (List.length_filter_le _ _) (by rw [List.length_range]; exact Nat.le_refl _)
theorem isi_tl {K : PySem.W.Frag} {a : String} (h1 : kitB a "tuple" = some false) (h2 : kitB a "list" = some false) : PySem.W.kitAny K (.type a) [.type "tuple", .type "list"] = some false :=
  kitAny_cons (b := false) (kit_ty h1) (fun _ => kitAny_cons (b := false) (kit_ty h2) (fun _ => kitAny_nil) (fun h => by cases h)) (fun h => by cases h)
theorem isi_tup {K : PySem.W.Frag} : PySem.W.kitAny K (.type "tuple") [.type "tuple", .type "list"] = some true :=
  kitAny_cons (b := true) (kit_ty (by decide +kernel)) (fun h => by cases h) (fun _ => rfl)
def toD : V → PyData
  | .int i => .int i
  | .str x => .str x
  | _ => .none
theorem dp_one {K : PySem.W.Frag} {H : Hp} {x : V} (h : flat0 x = true) : Dp K H x (toD x) := by
  cases x with
  | int i => exact .int i
  | str z => exact .str z
  | non => cases h
  | bl _ => cases h
  | byt _ => cases h
  | flt _ => cases h
  | ref _ => cases h
  | ty _ => cases h
theorem dp_all {K : PySem.W.Frag} {H : Hp} : ∀ {xs : List V}, xs.all flat0 = true → DpAll K H xs (xs.map toD)
  | [], _ => .nil
  | x :: r, h => by
    rw [List.all_cons, Bool.and_eq_true] at h
    exact .cons (dp_one h.1) (dp_all h.2)
theorem dp_tup {K : PySem.W.Frag} {H : Hp} {v : V} {xs : List V} (t : Tup H v xs) (h : xs.all flat0 = true) : Dp K H v (.tuple (xs.map toD)) := by
  obtain ⟨p, rfl, hp⟩ := t
  exact .tup (sqT hp) (dp_all h)
theorem sh1 : SeqAt.shaped (.tuple [.str "none"]) = true := by decide +kernel
theorem sh2 (i : Int) : SeqAt.shaped (.tuple [.str "entry", .int i]) = true := by
  have h : PyData.canLay0 (.str "entry") = true := by decide +kernel
  simp [SeqAt.shaped, PyData.canLay0, PyData.canLayAll0, PyData.depth, PyData.depthAll]
  simp [PyData.canLay0] at h
  exact h
theorem eqv1 (z : Str) : PyData.eqv (.tuple [.str z]) (.tuple [.str z]) = true := by
  simp [PyData.eqv, PyData.eqvAll]
theorem eqv2 (z : Str) (i j : Int) : PyData.eqv (.tuple [.str z, .int i]) (.tuple [.str z, .int j]) = decide (i = j) := by
  simp [PyData.eqv, PyData.eqvAll]
  try rw [Bool.eq_iff_iff]; simp

theorem fit_cons (e : Ent) (es : List Ent) (ms : List Int) : fitN (e :: es) ms = (if inside e.1 ms = true then [0] else []) ++ (fitN es ms).map (· + 1) := by
  unfold fitN
  rw [List.length_cons, List.range_succ_eq_map, List.filter_cons, List.filter_map]
  have h0 : fitP (e :: es) ms 0 = inside e.1 ms := rfl
  have h1 : (fitP (e :: es) ms ∘ Nat.succ) = fitP es ms := rfl
  rw [h0, h1]
  split <;> rfl
theorem fit_snoc (e : Ent) (es : List Ent) (ms : List Int) : fitN (es ++ [e]) ms = fitN es ms ++ (if inside e.1 ms = true then [es.length] else []) := by
  unfold fitN
  rw [List.length_append, List.length_singleton, List.range_succ, List.filter_append]
  have h0 : fitP (es ++ [e]) ms es.length = inside e.1 ms := by
    unfold fitP
    rw [List.getElem?_append_right (Nat.le_refl _), Nat.sub_self]
    rfl
  rw [List.filter_cons, List.filter_nil, h0]
  congr 1
  refine List.filter_congr fun i hi => ?_
  unfold fitP
  rw [List.getElem?_append_left (List.mem_range.mp hi)]
theorem cat_of {K : PySem.W.Frag} {H : Hp} {xs ys : List V} {a b : Addr} {Q : V → Hp → Prop} (ha : H a = some (.tup xs)) (hb : H b = some (.tup ys)) (hl : xs.length + ys.length ≤ sizeLine)
    (G : ∀ t H', H' t = some (.tup (xs ++ ys)) → Same H H' → Q (.ref t) H') : rCatA K (.ref a) (.ref b) H Q := by
  refine ⟨a, b, xs, ys, rfl, rfl, sqT ha, sqT hb, hl, fun e => ?_, fun _ e => ?_, fun _ _ p hp => ?_⟩
  · subst e
    exact G b H hb (Same.refl H)
  · subst e
    exact G a H (by rw [List.append_nil]; exact ha) (Same.refl H)
  · exact G p _ upd_same (Same.new hp)
theorem spk_flat (js : List Nat) : (spk js).all flat0 = true := by cases js <;> rfl
theorem spk_len (js : List Nat) : (spk js).length ≤ 1000 := by
  cases js with
  | nil => exact (by decide : 1 ≤ 1000)
  | cons j r => exact (by decide : 2 ≤ 1000)
theorem spk_sh (js : List Nat) : SeqAt.shaped (.tuple ((spk js).map toD)) = true := by
  cases js with
  | nil => exact sh1
  | cons j r => exact sh2 _
theorem spk_eqv (js : List Nat) : PyData.eqv (.tuple ((spk js).map toD)) (.tuple ((spk js).map toD)) = true := by
  cases js with
  | nil => exact eqv1 _
  | cons j r =>
    show PyData.eqv (.tuple [.str "entry", .int (j : Int)]) (.tuple [.str "entry", .int (j : Int)]) = true
    rw [eqv2]
    exact decide_eq_true rfl
theorem Same.tfr {H H' : Hp} (f : Same H H') : TFr H H' := TFr.same f
end Xci

namespace Xci
open PySem PySem.Spec PyProof.Rows L2
/-- the numbers that families.py names -/
structure FamCst (mg : Str → Option Value) where
  t1 : Tok
  t2 : Tok
  MOST_MARKS : mg "MOST_MARKS" = some (.int 6 t1)
  MOST_CELLS : mg "MOST_CELLS" = some (.int 24 t2)
/-- the class of families -/
structure FamTxt (K : PySem.W.Frag) (mg : Str → Option Value) (C : Addr) : Prop where
  cl : Cls K C
  nM : NoAttr K C "many"
  nC : NoAttr K C "cells"
  mgC : mg "Family" = some (.ref C)
def famF (many : Int) (p : Addr) : List (Str × V) := [("many", .int many), ("cells", .ref p)]
theorem n_mc : ¬ (("many" : Str) = "cells") := by decide +kernel
theorem putMany (v : V) : putF "many" v [] = [(("many" : Str), v)] := rfl
theorem putCells (v u : V) : putF "cells" u [(("many" : Str), v)] = [(("many" : Str), v), (("cells" : Str), u)] := by
  show (if ("many" : Str) = "cells" then _ else (("many" : Str), v) :: putF "cells" u []) = _
  rw [if_neg n_mc] <;> rfl
theorem famF_many (many : Int) (p : Addr) : (famF many p).lookup ("many" : Str) = some (.int many) := by
  unfold famF
  rw [List.lookup_cons, show ((Str.ofString "many" : Str) == Str.ofString "many") = true from by decide +kernel]
theorem famF_cells (many : Int) (p : Addr) : (famF many p).lookup ("cells" : Str) = some (.ref p) := by
  unfold famF
  rw [List.lookup_cons, show ((Str.ofString "cells" : Str) == Str.ofString "many") = false from by decide +kernel]
  rfl
/-- at b a family of so many marks with the cells at p -/
def FamAt (C : Addr) (H : Hp) (b : Addr) (many : Int) (p : Addr) : Prop := ∃ dx, H b = some (.ins C dx (famF many p))
def spAreCells : Sp := fun vs H Q _ => ∃ (many : Int) (p : Addr) (ys : List V) (cells : List (List Int)), vs = [.int many, .ref p] ∧ H p = some (.tup ys) ∧ Mks H ys cells ∧ FamOk many cells ∧ Q (.bl true) H
def spFam (C : Addr) : Sp := fun vs H Q _ => ∃ (x dx : Addr) (many : Int) (p : Addr) (ys : List V) (cells : List (List Int)), vs = [.ref x, .int many, .ref p] ∧ H x = some (.ins C dx []) ∧ H p = some (.tup ys) ∧ Mks H ys cells ∧ FamOk many cells ∧
  ∀ H' : Hp, FamAt C H' x many p → (∀ b o, H b = some o → b ≠ x → H' b = some o) → Q .non H'
/-- cells, each with the address at which it stands -/
theorem Mks.placed {K : PySem.W.Frag} {H : Hp} : ∀ {ys : List V} {cells : List (List Int)}, Mks H ys cells → ∃ ks : List (Addr × List Int), ys = ks.map (fun p => .ref p.1) ∧ ks.map (·.2) = cells ∧ ∀ p ∈ ks, SqT K H p.1 (p.2.map V.int)
  | _, _, .nil => ⟨[], rfl, rfl, nofun⟩
  | _, _, .cons ⟨a, e, h⟩ t => by
    obtain ⟨ks, e1, e2, e3⟩ := Mks.placed (K := K) t
    refine ⟨(a, _) :: ks, by rw [List.map_cons, ← e1, e], by rw [List.map_cons, e2], fun p hp => ?_⟩
    rcases List.mem_cons.mp hp with z | z
    · rw [z]; exact sqT h
    · exact e3 p z
end Xci

namespace Xci
open PySem PySem.Spec PyProof.Rows L2
/-- a form of a table, or none -/
def formV : Option Str → V
  | some z => .str z
  | none => .non
/-- the unlike forms, rising -/
structure Rising (fs : List (Option Str)) (zs : List Str) : Prop where
  up : sortedS zs = true
  all : ∀ z, z ∈ zs ↔ some z ∈ fs
  nd : zs.Nodup
def spUnlike : Sp := fun vs H Q _ => ∃ (p : Addr) (fs : List (Option Str)), vs = [.ref p] ∧ H p = some (.tup (fs.map formV)) ∧ fs.length < 64 ∧ ∀ (q : Addr) (zs : List Str) (H' : Hp), Rising fs zs → H' q = some (.lst (zs.map V.str)) → Same H H' → Q (.ref q) H'
/-- the class of tables -/
structure TabTxt (K : PySem.W.Frag) (mg : Str → Option Value) (C : Addr) : Prop where
  cl : Cls K C
  nF : NoAttr K C "family"
  nO : NoAttr K C "forms"
  mgC : mg "Table" = some (.ref C)
structure FormCst (mg : Str → Option Value) where
  t1 : Tok
  LONGEST_FORM : mg "LONGEST_FORM" = some (.int 8 t1)
structure TabCst (mg : Str → Option Value) where
  t1 : Tok
  MOST_FORMS : mg "MOST_FORMS" = some (.int 12 t1)
/-- the forms that a table of so many cells can have -/
structure FormsOk (n : Nat) (fs : List (Option Str)) : Prop where
  len : fs.length = n
  few : n ≤ 24
  word : ∀ z, some z ∈ fs → WordOk z
  unlike : ∀ zs, Rising fs zs → zs.length ≤ 12
def spAreForms : Sp := fun vs H Q _ => ∃ (n : Nat) (p : Addr) (fs : List (Option Str)), vs = [.int n, .ref p] ∧ H p = some (.tup (fs.map formV)) ∧ FormsOk n fs ∧ ∀ H', Same H H' → Q (.bl true) H'
def tabF (fam p : Addr) : List (Str × V) := [("family", .ref fam), ("forms", .ref p)]
theorem n_ff : ¬ (("family" : Str) = "forms") := by decide +kernel
theorem putFamily (v : V) : putF "family" v [] = [(("family" : Str), v)] := rfl
theorem putForms (v u : V) : putF "forms" u [(("family" : Str), v)] = [(("family" : Str), v), (("forms" : Str), u)] := by
  show (if ("family" : Str) = "forms" then _ else (("family" : Str), v) :: putF "forms" u []) = _
  rw [if_neg n_ff] <;> rfl
theorem tabF_family (fam p : Addr) : (tabF fam p).lookup ("family" : Str) = some (.ref fam) := by
  unfold tabF
  rw [List.lookup_cons, show ((Str.ofString "family" : Str) == Str.ofString "family") = true from by decide +kernel]
theorem tabF_forms (fam p : Addr) : (tabF fam p).lookup ("forms" : Str) = some (.ref p) := by
  unfold tabF
  rw [List.lookup_cons, show ((Str.ofString "forms" : Str) == Str.ofString "family") = false from by decide +kernel]
  rfl
/-- at b a table of the family at fam with the forms at p -/
def TabAt (C : Addr) (H : Hp) (b fam p : Addr) : Prop := ∃ dx, H b = some (.ins C dx (tabF fam p))
def spTab (CF C : Addr) : Sp := fun vs H Q _ => ∃ (x dx fam : Addr) (many : Int) (pc : Addr) (ys : List V) (p : Addr) (fs : List (Option Str)), vs = [.ref x, .ref fam, .ref p] ∧ H x = some (.ins C dx []) ∧ FamAt CF H fam many pc ∧ x ≠ fam ∧ H pc = some (.tup ys) ∧ H p = some (.tup (fs.map formV)) ∧ FormsOk ys.length fs ∧
  ∀ H' : Hp, TabAt C H' x fam p → (∀ b o, H b = some o → b ≠ x → H' b = some o) → Q .non H'
def spSpoken (C : Addr) : Sp := fun vs H Q _ => ∃ (b fam p : Addr) (fs : List (Option Str)), vs = [.ref b] ∧ TabAt C H b fam p ∧ H p = some (.tup (fs.map formV)) ∧ fs.length < 64 ∧
  ∀ (r : Addr) (zs : List Str) (H' : Hp), Rising fs zs → H' r = some (.tup (zs.map V.str)) → Same H H' → Q (.ref r) H'
def spIsSpoken (C : Addr) : Sp := fun vs H Q _ => ∃ (b fam p : Addr) (fs : List (Option Str)) (z : Str), vs = [.ref b, .str z] ∧ TabAt C H b fam p ∧ H p = some (.tup (fs.map formV)) ∧ some z ∈ fs ∧ Q (.bl true) H
/-- the numbers of the cells with this form -/
def spots (fs : List (Option Str)) (z : Str) : List Nat := (List.range fs.length).filter fun i => decide (fs[i]? = some (some z))
def spCellsOf (C : Addr) : Sp := fun vs H Q _ => ∃ (b fam p : Addr) (fs : List (Option Str)) (z : Str), vs = [.ref b, .str z] ∧ TabAt C H b fam p ∧ H p = some (.tup (fs.map formV)) ∧ fs.length < 64 ∧ some z ∈ fs ∧
  ∀ (r : Addr) (H' : Hp), H' r = some (.tup ((nat2 (spots fs z)).map V.int)) → Same H H' → Q (.ref r) H'
theorem forms_flat (fs : List (Option Str)) : (fs.map formV).all flatV = true := by
  rw [List.all_eq_true]
  intro x hx
  obtain ⟨f, _, rfl⟩ := List.mem_map.mp hx
  cases f <;> rfl
theorem forms_in {fs : List (Option Str)} {z : Str} (h : some z ∈ fs) : inV (.str z) (fs.map formV) = true := by
  unfold inV
  rw [List.any_eq_true]
  refine ⟨.str z, List.mem_map.mpr ⟨some z, h, rfl⟩, ?_⟩
  show eqV (.str z) (.str z) = true
  simp [eqV]
theorem form_scal (f : Option Str) (z : Str) : scal (formV f) (.str z) = true := by cases f <;> rfl
theorem form_is (f : Option Str) (z : Str) : decide (formV f = V.str z) = decide (f = some z) := by
  cases f with
  | none => rfl
  | some y =>
    rw [decide_eq_decide]
    constructor
    · intro h
      injection h with h
      rw [h]
    · intro h
      injection h with h
      rw [h]
      rfl
/-- the spots among the first i cells -/
def spotsTo (fs : List (Option Str)) (z : Str) (i : Nat) : List Nat := (List.range i).filter fun j => decide (fs[j]? = some (some z))
theorem spots_next {fs : List (Option Str)} {z : Str} {i : Nat} {f : Option Str} (e : fs[i]? = some f) : spotsTo fs z (i + 1) = spotsTo fs z i ++ (if decide (f = some z) = true then [i] else []) := by
  unfold spotsTo
  rw [List.range_succ, List.filter_append, List.filter_cons, List.filter_nil, e]
  by_cases q : f = some z
  · rw [if_pos (decide_eq_true q), if_pos (decide_eq_true (congrArg some q))]
  · rw [if_neg (fun h => q (of_decide_eq_true h)), if_neg (fun h => q (Option.some.inj (of_decide_eq_true h)))]
theorem spots_few (fs : List (Option Str)) (z : Str) (i : Nat) : (spotsTo fs z i).length ≤ i := by
  have h := List.length_filter_le (fun j => decide (fs[j]? = some (some z))) (List.range i)
  rw [List.length_range] at h
  exact h
/-- the marks that all cells with this form have -/
def sharedIn (cells : List (List Int)) (fs : List (Option Str)) (z : Str) (m : Int) : Bool := (spots fs z).all fun i => match cells[i]? with
  | some c => decide (m ∈ c)
  | none => true
def spCommon (CF C : Addr) : Sp := fun vs H Q _ => ∃ (b fam p : Addr) (fs : List (Option Str)) (z : Str) (many : Int) (pc : Addr) (ys : List V) (cells : List (List Int)), vs = [.ref b, .str z] ∧ TabAt C H b fam p ∧ H p = some (.tup (fs.map formV)) ∧ FamAt CF H fam many pc ∧ H pc = some (.tup ys) ∧ Mks H ys cells ∧ FamOk many cells ∧ fs.length = cells.length ∧ some z ∈ fs ∧
  ∀ (r : Addr) (ms : List Int) (H' : Hp), H' r = some (.tup (ms.map V.int)) → MarksOk many ms → (∀ m, m ∈ ms ↔ 0 ≤ m ∧ m < many ∧ sharedIn cells fs z m = true) → Same H H' → Q (.ref r) H'
theorem spots_at {fs : List (Option Str)} {z : Str} {j : Nat} : j ∈ spots fs z ↔ fs[j]? = some (some z) := by
  unfold spots
  rw [List.mem_filter, List.mem_range, decide_eq_true_eq]
  exact ⟨fun h => h.2, fun h => ⟨(List.getElem?_eq_some_iff.mp h).1, h⟩⟩
theorem spots_ne {fs : List (Option Str)} {z : Str} (h : some z ∈ fs) : spots fs z ≠ [] := fun e => by
  obtain ⟨j, hj⟩ := List.mem_iff_getElem?.mp h
  have := spots_at.mpr hj
  rw [e] at this
  cases this
theorem spots_len (fs : List (Option Str)) (z : Str) : (spots fs z).length ≤ fs.length := spots_few fs z fs.length
/-- the cells with these numbers -/
def cellsAt (cells : List (List Int)) (js : List Nat) : List (List Int) := js.map fun j => cells.getD j []
theorem cells_placed {H : Hp} {ys : List V} {cells : List (List Int)} (each : Mks H ys cells) : ∀ (js : List Nat), (∀ j ∈ js, j < cells.length) → Mks H (js.map fun j => ys.getD j .non) (cellsAt cells js)
  | [], _ => .nil
  | j :: js, h => by
    have lt := h j List.mem_cons_self
    have len := Paired.length each
    obtain ⟨c, e, m⟩ := Paired.get each (List.getElem?_eq_getElem (show j < ys.length by omega))
    refine .cons ?_ (cells_placed each js fun k hk => h k (List.mem_cons_of_mem _ hk))
    show Xci.Mk H (ys.getD j .non) (cells.getD j [])
    rw [List.getD_eq_getElem?_getD, List.getD_eq_getElem?_getD, e, List.getElem?_eq_getElem (show j < ys.length by omega)]
    exact m
theorem shared_all {cells : List (List Int)} {fs : List (Option Str)} {z : Str} {m : Int} (size : fs.length = cells.length) : sharedIn cells fs z m = (cellsAt cells (spots fs z)).all fun c => decide (m ∈ c) := by
  unfold sharedIn cellsAt
  rw [List.all_map, Bool.eq_iff_iff, List.all_eq_true, List.all_eq_true]
  have one : ∀ j ∈ spots fs z, cells[j]? = some (cells.getD j []) := fun j hj => by
    have lt : j < cells.length := by have := (List.getElem?_eq_some_iff.mp (spots_at.mp hj)).1; omega
    rw [List.getD_eq_getElem?_getD, List.getElem?_eq_getElem lt] <;> rfl
  constructor
  · intro h j hj
    have := h j hj
    rw [one j hj] at this
    exact this
  · intro h j hj
    rw [one j hj]
    exact h j hj
/-- not after -/
def upTo (a b : Str) : Prop := a.cps.toList ≤ b.cps.toList
theorem upTo_of {a b : Str} (h : ltCps b.cps.toList a.cps.toList = false) : upTo a b := by
  rw [ltCps_eq] at h
  exact List.not_lt.mp (of_decide_eq_false h)
theorem rising_pairs : ∀ (x : Str) (r : List Str), risingS x r = true → (∀ y ∈ r, upTo x y) ∧ r.Pairwise upTo
  | _, [], _ => ⟨nofun, .nil⟩
  | x, y :: r, h => by
    have h' : (!ltCps y.cps.toList x.cps.toList && risingS y r) = true := h
    rw [Bool.and_eq_true, Bool.not_eq_true'] at h'
    obtain ⟨a, b⟩ := h'
    obtain ⟨c, d⟩ := rising_pairs y r b
    have xy := upTo_of a
    refine ⟨fun z hz => ?_, List.pairwise_cons.mpr ⟨c, d⟩⟩
    rcases List.mem_cons.mp hz with e | hz
    · rw [e]; exact xy
    · exact List.le_trans xy (c z hz)
theorem sorted_pairs : ∀ (l : List Str), sortedS l = true → l.Pairwise upTo
  | [], _ => .nil
  | x :: r, h => List.pairwise_cons.mpr (rising_pairs x r h)
theorem str_ext {a b : Str} (h : a.cps.toList = b.cps.toList) : a = b := by
  obtain ⟨⟨x⟩⟩ := a
  obtain ⟨⟨y⟩⟩ := b
  have e : x = y := h
  rw [e]
/-- the unlike forms of a table, rising, are one list -/
theorem Rising.one {fs : List (Option Str)} {xs ys : List Str} (h : Rising fs xs) (k : Rising fs ys) : xs = ys :=
  List.Perm.eq_of_pairwise (le := upTo) (fun a b _ _ p q => str_ext (List.le_antisymm p q)) (sorted_pairs xs h.up) (sorted_pairs ys k.up)
    ((List.perm_ext_iff_of_nodup h.nd k.nd).mpr fun z => (h.all z).trans (k.all z).symm)
theorem MarksOk.one {n n' : Int} {xs ys : List Int} (h : MarksOk n xs) (k : MarksOk n' ys) (same : ∀ m, m ∈ xs ↔ m ∈ ys) : xs = ys :=
  List.Perm.eq_of_pairwise (le := (· < ·)) (fun a b _ _ p q => by omega) h.up k.up ((List.perm_ext_iff_of_nodup h.nd k.nd).mpr same)
end Xci

namespace Xci
open PySem L2
/-! ### who speaks, by a relation «beats» -/
inductive Res where
  | none
  | ent (j : Nat)
  | qua (l : List Nat)
/-- n is in js and beats all others -/
def Win (js : List Nat) (beat : Nat → Nat → Bool) (n : Nat) : Prop := n ∈ js ∧ ∀ o ∈ js, o ≠ n → beat n o = true
structure Beat (beat : Nat → Nat → Bool) : Prop where
  irr : ∀ n, beat n n = false
  asy : ∀ n o, beat n o = true → beat o n = false
def winC (js : List Nat) (beat : Nat → Nat → Bool) (n : Nat) : Bool := decide ((js.filter (beat n)).length + 1 = js.length)
def maxB (js : List Nat) (beat : Nat → Nat → Bool) (n : Nat) : Bool := !js.any fun o => beat o n
def lawRes (js : List Nat) (beat : Nat → Nat → Bool) : Res :=
  if js = [] then .none else match js.find? (winC js beat) with
    | some n => .ent n
    | none => .qua (js.filter (maxB js beat))
theorem filt_add {α : Type} (p : α → Bool) : ∀ l : List α, (l.filter p).length + (l.filter fun x => !p x).length = l.length
  | [] => rfl
  | x :: r => by
    have ih := filt_add p r
    rw [List.filter_cons, List.filter_cons]
    cases h : p x
    · simp only [Bool.not_false, if_true, Bool.false_eq_true, if_false, List.length_cons]
      omega
    · simp only [Bool.not_true, if_true, Bool.false_eq_true, if_false, List.length_cons]
      omega
theorem filt_one {α : Type} [DecidableEq α] {p : α → Bool} {l : List α} {n : α} (hn : l.Nodup) (hm : n ∈ l) (hp : p n = true) : (l.filter p).length = 1 ↔ ∀ o ∈ l, o ≠ n → p o = false := by
  constructor
  · intro h o ho hne
    cases q : p o with
    | false => rfl
    | true =>
      obtain ⟨x, hx⟩ := List.length_eq_one_iff.mp h
      have h1 : n ∈ l.filter p := List.mem_filter.mpr ⟨hm, hp⟩
      have h2 : o ∈ l.filter p := List.mem_filter.mpr ⟨ho, q⟩
      rw [hx] at h1 h2
      rw [List.mem_singleton] at h1 h2
      exact absurd (h2.trans h1.symm) hne
  · intro h
    have nd : (l.filter p).Nodup := List.Sublist.nodup List.filter_sublist hn
    have h1 : n ∈ l.filter p := List.mem_filter.mpr ⟨hm, hp⟩
    have h2 : ∀ o ∈ l.filter p, o = n := fun o ho => by
      obtain ⟨a, b⟩ := List.mem_filter.mp ho
      by_cases e : o = n
      · exact e
      · rw [h o a e] at b; cases b
    match hl : l.filter p with
    | [] => rw [hl] at h1; cases h1
    | [x] => rfl
    | x :: y :: r =>
      rw [hl] at h2 nd
      have e1 := h2 x (by simp)
      have e2 := h2 y (by simp)
      rw [e1, e2] at nd
      exact absurd (by simp) (List.nodup_cons.mp nd).1
theorem winC_iff {js : List Nat} {beat : Nat → Nat → Bool} (B : Beat beat) (hn : js.Nodup) {n : Nat} (hm : n ∈ js) : winC js beat n = true ↔ Win js beat n := by
  unfold winC
  rw [decide_eq_true_iff]
  have h1 := filt_add (beat n) js
  have h2 := filt_one (p := fun x => !beat n x) hn hm (by simp [B.irr])
  constructor
  · intro h
    refine ⟨hm, fun o ho hne => ?_⟩
    have := h2.mp (by omega) o ho hne
    simpa using this
  · intro h
    have := h2.mpr fun o ho hne => by simp [h.2 o ho hne]
    omega
theorem Win.uniq {js : List Nat} {beat : Nat → Nat → Bool} (B : Beat beat) {n m : Nat} (h1 : Win js beat n) (h2 : Win js beat m) : n = m := by
  by_cases e : n = m
  · exact e
  · have a := h1.2 m h2.1 (fun q => e q.symm)
    have b := h2.2 n h1.1 e
    rw [B.asy _ _ a] at b
    cases b
theorem lawRes_nil (beat : Nat → Nat → Bool) : lawRes [] beat = .none := rfl
theorem lawRes_ent {js : List Nat} {beat : Nat → Nat → Bool} (B : Beat beat) (hn : js.Nodup) {n : Nat} (h : Win js beat n) : lawRes js beat = .ent n := by
  unfold lawRes
  rw [if_neg (by intro e; rw [e] at h; exact absurd h.1 (by simp))]
  cases q : js.find? (winC js beat) with
  | none =>
    have := List.find?_eq_none.mp q n h.1
    exact absurd ((winC_iff B hn h.1).mpr h) this
  | some m =>
    have h1 := List.find?_some q
    have h2 := List.mem_of_find?_eq_some q
    have e := Win.uniq B h ((winC_iff B hn h2).mp h1)
    rw [e]
theorem lawRes_qua {js : List Nat} {beat : Nat → Nat → Bool} (B : Beat beat) (hn : js.Nodup) (hne : js ≠ []) (h : ∀ n, ¬ Win js beat n) : lawRes js beat = .qua (js.filter (maxB js beat)) := by
  unfold lawRes
  rw [if_neg hne]
  cases q : js.find? (winC js beat) with
  | none => rfl
  | some m =>
    have h1 := List.find?_some q
    have h2 := List.mem_of_find?_eq_some q
    exact absurd ((winC_iff B hn h2).mp h1) (h m)
theorem lawRes_cases {js : List Nat} {beat : Nat → Nat → Bool} (B : Beat beat) (hn : js.Nodup) : (js = [] ∧ lawRes js beat = .none) ∨ (∃ n, Win js beat n ∧ lawRes js beat = .ent n) ∨ (js ≠ [] ∧ (∀ n, ¬ Win js beat n) ∧ lawRes js beat = .qua (js.filter (maxB js beat))) := by
  by_cases e : js = []
  · exact .inl ⟨e, by rw [e]; rfl⟩
  · by_cases h : ∃ n, Win js beat n
    · obtain ⟨n, h⟩ := h
      exact .inr (.inl ⟨n, h, lawRes_ent B hn h⟩)
    · have h' : ∀ n, ¬ Win js beat n := fun n q => h ⟨n, q⟩
      exact .inr (.inr ⟨e, h', lawRes_qua B hn e h'⟩)
/-- the same relation, the same result -/
theorem lawRes_congr {js : List Nat} {b1 b2 : Nat → Nat → Bool} (h : ∀ n ∈ js, ∀ o ∈ js, b1 n o = b2 n o) : lawRes js b1 = lawRes js b2 := by
  have e1 : ∀ n ∈ js, winC js b1 n = winC js b2 n := fun n hn => by
    unfold winC
    rw [List.filter_congr (h n hn)]
  have e2 : ∀ n ∈ js, maxB js b1 n = maxB js b2 n := fun n hn => by
    unfold maxB
    congr 1
    rw [Bool.eq_iff_iff, List.any_eq_true, List.any_eq_true]
    exact ⟨fun ⟨o, ho, q⟩ => ⟨o, ho, by rw [← h o ho n hn]; exact q⟩, fun ⟨o, ho, q⟩ => ⟨o, ho, by rw [h o ho n hn]; exact q⟩⟩
  have e3 : js.find? (winC js b1) = js.find? (winC js b2) := by
    have : ∀ l : List Nat, (∀ n ∈ l, winC js b1 n = winC js b2 n) → l.find? (winC js b1) = l.find? (winC js b2) := by
      intro l
      induction l with
      | nil => intro _; rfl
      | cons x r ih =>
        intro hl
        rw [List.find?_cons, List.find?_cons, hl x (by simp), ih fun n hn => hl n (List.mem_cons_of_mem _ hn)]
    exact this js e1
  unfold lawRes
  rw [e3, List.filter_congr e2]
/-- what the permuted book says -/
inductive Turned (g : Nat → Nat) : Res → Res → Prop
  | none : Turned g .none .none
  | ent (i : Nat) : Turned g (.ent i) (.ent (g i))
  | qua (l' l : List Nat) : (l'.map g).Perm l → Turned g (.qua l') (.qua l)
theorem lawRes_turned {js js' : List Nat} {beat beat' : Nat → Nat → Bool} {g : Nat → Nat} (B : Beat beat) (B' : Beat beat') (hn : js.Nodup) (hp : (js'.map g).Perm js) (hb : ∀ i ∈ js', ∀ o ∈ js', beat' i o = beat (g i) (g o)) : Turned g (lawRes js' beat') (lawRes js beat) := by
  have nd1 : (js'.map g).Nodup := hp.nodup_iff.mpr hn
  have nd' : js'.Nodup := (List.pairwise_map.mp nd1).imp fun h e => h (congrArg g e)
  have inj : ∀ i ∈ js', ∀ o ∈ js', g i = g o → i = o := fun i hi o ho e => by
    obtain ⟨a, ha⟩ := List.getElem?_of_mem hi
    obtain ⟨b, hb⟩ := List.getElem?_of_mem ho
    have q1 : (js'.map g)[a]? = some (g i) := by rw [List.getElem?_map, ha]; rfl
    have q2 : (js'.map g)[b]? = some (g i) := by rw [List.getElem?_map, hb, e]; rfl
    have := nd_ix nd1 q1 q2
    subst this
    exact Option.some.inj (ha.symm.trans hb)
  rcases lawRes_cases B' nd' with ⟨e, r⟩ | ⟨n, h, r⟩ | ⟨e, h, r⟩
  · subst e
    have : js = [] := by
      have := hp.length_eq
      exact List.eq_nil_of_length_eq_zero this.symm
    subst this
    rw [r, lawRes_nil]
    exact .none
  · rw [r, lawRes_ent B hn (n := g n)]
    · exact .ent n
    · refine ⟨hp.subset (List.mem_map_of_mem h.1), fun o ho hne => ?_⟩
      obtain ⟨i, hi, rfl⟩ := List.mem_map.mp (hp.symm.subset ho)
      rw [← hb n h.1 i hi]
      exact h.2 i hi fun e => hne (by rw [e])
  · have hne : js ≠ [] := fun e' => e (by
      rw [e'] at hp
      have := hp.length_eq
      rw [List.length_map] at this
      exact List.eq_nil_of_length_eq_zero this)
    rw [r, lawRes_qua B hn hne fun m hm => ?_]
    · refine .qua _ _ ?_
      have e1 : js'.filter (maxB js' beat') = js'.filter (fun i => maxB js beat (g i)) := by
        refine List.filter_congr fun i hi => ?_
        unfold maxB
        congr 1
        rw [Bool.eq_iff_iff, List.any_eq_true, List.any_eq_true]
        constructor
        · rintro ⟨o, ho, q⟩
          exact ⟨g o, hp.subset (List.mem_map_of_mem ho), by rw [← hb o ho i hi]; exact q⟩
        · rintro ⟨o, ho, q⟩
          obtain ⟨k, hk, rfl⟩ := List.mem_map.mp (hp.symm.subset ho)
          exact ⟨k, hk, by rw [hb k hk i hi]; exact q⟩
      rw [e1]
      have e2 : (js'.filter (fun i => maxB js beat (g i))).map g = (js'.map g).filter (maxB js beat) := by
        rw [List.filter_map]
        rfl
      rw [e2]
      exact hp.filter _
    · obtain ⟨i, hi, rfl⟩ := List.mem_map.mp (hp.symm.subset hm.1)
      refine h i ⟨hi, fun o ho hne => ?_⟩
      rw [hb i hi o ho]
      exact hm.2 (g o) (hp.subset (List.mem_map_of_mem ho)) fun e => hne (inj _ ho _ hi e)
end Xci

namespace Xci
open PySem PySem.Spec PyProof.Rows L2
/-- the tuple at a and the list at b as they stand at each turn, their items in new pairs -/
def ItzM (K : PySem.W.Frag) (a b : Addr) : It :=
  ⟨fun i H => ∃ (xs ys : List V) (x y : V), (SqT K H a xs ∧ SqL K H b ys) ∧ xs[i]? = some x ∧ ys[i]? = some y,
    fun i H v H' => ∃ T x y, v = .ref T ∧ (H T = none ∧ H' = upd H T (.tup [x, y])) ∧ (∀ xs, SqT K H a xs → xs[i]? = some x) ∧ ∀ ys, SqL K H b ys → ys[i]? = some y,
    fun i H => ∃ xs ys : List V, (SqT K H a xs ∧ SqL K H b ys) ∧ xs.length = ys.length ∧ i = xs.length⟩
/-- the state of such a zip at its i-th turn -/
def ZSt (z TI TO i1 i2 a b : Addr) (i : Nat) (h : Heap) : Prop := IsZip h z TI TO .none ∧ IsTupOf2 h TI (.ref i1) (.ref i2) ∧ (∃ p q, IsTupOf2 h TO p q) ∧ h.IsTupleIter i1 a i ∧ h.IsListIter i2 b i
theorem five {c z TI TO i1 i2 : Addr} (h : c ∈ [z, TI, TO, i1, i2]) : c = z ∨ c = TI ∨ c = TO ∨ c = i1 ∨ c = i2 := by simpa using h
theorem ZSt.low {z TI TO i1 i2 a b : Addr} {i : Nat} {h : Heap} (st : ZSt z TI TO i1 i2 a b i h) : ∀ c ∈ [z, TI, TO, i1, i2], c < h.objs.size := by
  obtain ⟨q1, q2, ⟨_, _, q3⟩, ⟨_, q4, _⟩, ⟨_, q5, _⟩⟩ := st
  intro c hc
  rcases five hc with e | e | e | e | e <;> subst e
  · exact Heap.lt_size q1
  · exact Heap.lt_size q2
  · exact Heap.lt_size q3
  · exact Heap.lt_size q4
  · exact Heap.lt_size q5
theorem turn_zipM {P : Program} {w : World} {K : PySem.W.Frag} {elts : List Expr} {kk : Nat} {tpos : Pos} {a b z TI TO i1 i2 : Addr} (S : ZipSep2 z TI TO i1 i2 [i1, a] [i2, b]) (n1 : a ≠ i1) (n2 : b ≠ i2) :
    Turn P w K (.Tuple elts kk tpos) (ItzM K a b) [z, TI, TO, i1, i2] z (ZSt z TI TO i1 i2 a b) where
  mem := by simp
  self := fun _ _ _ _ _ st q => wpAny_pyIter_zip st.1 q
  keep := fun i h h' st k => by
    obtain ⟨q1, q2, ⟨p, q, q3⟩, q4, q5⟩ := st
    exact ⟨k _ (by simp) _ q1, k _ (by simp) _ q2, ⟨p, q, k _ (by simp) _ q3⟩, q4.at fun o e => k _ (by simp) o e, q5.at fun o e => k _ (by simp) o e⟩
  obj := fun i h st c hc => by
    obtain ⟨q1, q2, ⟨_, _, q3⟩, ⟨o4, q4, _, d4⟩, ⟨o5, q5, _, d5⟩⟩ := st
    rcases five hc with e | e | e | e | e <;> subst e
    · exact ⟨_, q1, fun v q => nomatch q⟩
    · exact ⟨_, q2, fun v q => nomatch q⟩
    · exact ⟨_, q3, fun v q => nomatch q⟩
    · exact ⟨o4, q4, fun v q => by rw [d4] at q; cases q⟩
    · exact ⟨o5, q5, fun v q => by rw [d5] at q; cases q⟩
  item := by
    intro X hP hw hK hc i pins s σ H E I hf st hg
    subst hP hw hK
    have low := st.low
    obtain ⟨q1, q2, ⟨p, q, q3⟩, q4, q5⟩ := st
    obtain ⟨xs, ys, x, y, ⟨hx, hy⟩, ex, ey⟩ := hg
    obtain ⟨us, rx, tx, _⟩ := I.tuple hx
    obtain ⟨vs, ry, ty, _⟩ := I.list hy
    obtain ⟨u, eu, ru⟩ := rx.get ex
    obtain ⟨v, ev, rv⟩ := ry.get ey
    have lu : i < us.toArray.size := by simpa using (List.getElem?_eq_some_iff.mp eu).1
    have lv : i < vs.toArray.size := by simpa using (List.getElem?_eq_some_iff.mp ev).1
    have calm : X.A.in1.handled = none := I.ok.hd hc
    refine wpAny_pyNext_zipD2_item (prog := X.prog) (w := X.w) (A := X.A) S (Draws.tuple calm i1 a n1 us.toArray) (Draws.list calm i2 b n2 vs.toArray) q1 q2 q3 ⟨q4, tx⟩ ⟨q5, ty.isList⟩ lu lv fun u' v' h' tk eu' ev' z' TO' s1' s2' hT hsz hk => ?_
    obtain rfl : u' = u := Option.some.inj (eu'.symm.trans (by simpa using eu))
    obtain rfl : v' = v := Option.some.inj (ev'.symm.trans (by simpa using ev))
    refine ⟨_, rfl, wpAny_letOwnedTupleGo_zip (s := { s with heap := h', toks := tk }) z' fun h'' z'' sb => ?_⟩
    have zl : z < s.heap.objs.size := low z (by simp)
    have top : h''.get? s.heap.objs.size = some { cls := .type "tuple", data := .seq #[u', v'] } := (sb.2 _ (Nat.ne_of_gt zl)).trans hT
    have made : ObjOk X.prog X.w (upd H s.heap.objs.size (.tup [x, y])) h'' s.heap.objs.size (.tup [x, y]) := ⟨by show 2 ≤ sizeLine; decide, [u', v'], .cons ru (.cons rv .nil), _, top, rfl, _, rfl⟩
    have all : ∀ c o, c ∉ [z, TI, TO, i1, i2] → s.heap.get? c = some o → h''.get? c = some o := fun c o hb e =>
      (sb.2 c fun e' => hb (by simp [e'])).trans (hk c o (fun e' => hb (by simp [e'])) (fun e' => hb (by simp [e'])) (fun e' => hb (by simp [e'])) (fun e' => hb (by simp [e'])) e)
    have I1 : Inv X pins σ (upd H s.heap.objs.size (.tup [x, y])) { s with heap := h'', toks := tk } := I.turnedNew (ch := [z, TI, TO, i1, i2]) all hf (Nat.le_refl _) made
    refine ⟨.ref s.heap.objs.size, _, I1, rfl, ⟨_, x, y, rfl, ⟨I.hok.fresh (Nat.le_refl _), rfl⟩, fun l hl => by rw [I.tuple_inj hl hx]; exact ex, fun l hl => by rw [I.list_inj hl hy]; exact ey⟩, ⟨z'', ?_, ⟨u', v', ?_⟩, ?_, ?_⟩, fun c hcm => ?_⟩
    · exact (sb.2 _ S.TIz).trans (hk _ _ S.TIz S.TITO S.TIi1 S.TIi2 q2)
    · exact (sb.2 _ S.TOz).trans TO'
    · exact s1'.1.at fun o e => (sb.2 _ (Ne.symm S.zi1)).trans e
    · exact s2'.1.at fun o e => (sb.2 _ (Ne.symm S.zi2)).trans e
    · rw [upd_ne (Nat.ne_of_lt (low c hcm))]
      exact (hf c hcm).1
  done := by
    intro X hP hw hK hc i pins s σ H E I hf st hg
    subst hP hw hK
    obtain ⟨q1, q2, ⟨p, q, q3⟩, q4, q5⟩ := st
    obtain ⟨xs, ys, ⟨hx, hy⟩, el, rfl⟩ := hg
    obtain ⟨us, rx, tx, _⟩ := I.tuple hx
    obtain ⟨vs, ry, ty, _⟩ := I.list hy
    have l1 : xs.length = us.toArray.size := by rw [rx.length]; simp
    have l2 : ys.length = vs.toArray.size := by rw [ry.length]; simp
    have calm : X.A.in1.handled = none := I.ok.hd hc
    exact wpAny_pyNext_zipD2_end (prog := X.prog) (w := X.w) (A := X.A) S (Draws.tuple calm i1 a n1 us.toArray) (Draws.list calm i2 b n2 vs.toArray) q1 q2 q3 ⟨q4, tx⟩ ⟨q5, ty.isList⟩ (by omega) (by omega) (.inl l1) fun h' tk hk =>
      ⟨rfl, I.turnedL (t' := tk) (ch := [z, TI, TO, i1, i2]) (fun c o hb e => hk c o (fun e' => hb (by simp [e'])) (fun e' => hb (by simp [e'])) (fun e' => hb (by simp [e'])) (fun e' => hb (by simp [e'])) e) hf⟩
def iZipM (K : PySem.W.Frag) (ta : TA) : TI := fun σ H R => ta σ H fun vs H1 => ∃ a b xs ys, vs = [.ref a, .ref b] ∧ (SqT K H1 a xs ∧ SqL K H1 b ys) ∧ R (ItzM K a b) H1
theorem pi_zipM {X : Cx} {e e2 : Expr} {ta : TA} {p pos tpos : Pos} {elts : List Expr} {kk : Nat} (hg : Gl X "zip") (hm : X.mg "zip" = none) (ha : PA X [e, e2] ta)
    (hs : starEach [e, e2] X.env = (false, eval e X.env) :: starEach [e2] X.env := by rfl) (hpl : (backTo pos (starEach [e2] X.env)).any (·.1) = false := by rfl) :
    PI X (.Tuple elts kk tpos) (.Call (.Name "zip" p) [e, e2] [] pos) (iZipM X.K ta) := by
  refine ⟨fun pins s σ H R I h => Call_ (ld_blt I hg hm boot_zip (callWith_type1 (thn (ha.run pos pins s σ H _ I h) fun us s1 ⟨vs, H1, I1, r1, q1⟩ => ?_) hs hpl))⟩
  obtain ⟨a, b, xs, ys, rfl, ⟨hx, hy⟩, q⟩ := q1
  obtain ⟨u1, u2, rfl, r, r'⟩ := vals2 r1
  cases r
  cases r'
  obtain ⟨us, rx, tx, _⟩ := I1.tuple hx
  obtain ⟨vs, ry, ty, _⟩ := I1.list hy
  have al : a < s1.heap.objs.size := by obtain ⟨_, e, _⟩ := id tx; exact Heap.lt_size e
  have bl : b < s1.heap.objs.size := by obtain ⟨_, e, _⟩ := id ty.isList; exact Heap.lt_size e
  have sep := zip_sep2 (N := s1.heap.objs.size) (fp1 := [a]) (fp2 := [b]) (fun c hc => by rw [List.mem_singleton.mp hc]; exact al) (fun c hc => by rw [List.mem_singleton.mp hc]; exact bl)
  refine zip_begins2 (begins_tuple a us.toArray) (begins_list b vs.toArray) tx ty.isList fun h' z' TI' TO' o1 o2 hsz hk => wpAny_pyIter_zip z' ?_
  refine ⟨s1.heap.objs.size + 4, [s1.heap.objs.size + 4, s1.heap.objs.size + 2, s1.heap.objs.size + 3, s1.heap.objs.size, s1.heap.objs.size + 1], _, _, H1, rfl, I1.kept (t' := s1.toks) hk, turn_zipM sep (Nat.ne_of_lt al) (Nat.ne_of_lt (Nat.lt_succ_of_lt bl)),
    ⟨z', TI', ⟨_, _, TO'⟩, ⟨_, o1, rfl, rfl⟩, ⟨_, o2, rfl, rfl⟩⟩, fun c hc => ?_, q⟩
  have low : s1.heap.objs.size ≤ c := by
    rcases five hc with e | e | e | e | e <;> rw [e]
    · exact Nat.le_add_right _ _
    · exact Nat.le_add_right _ _
    · exact Nat.le_add_right _ _
    · exact Nat.le_refl _
    · exact Nat.le_add_right _ _
  exact I1.fpOk low (I1.hok.fresh low)
theorem walk_zipM {K : PySem.W.Frag} {a b : Addr} {xs ys : List V} (hl : xs.length = ys.length) : Walk (ItzM K a b) xs.length (fun H => SqT K H a xs ∧ SqL K H b ys) (fun i H v H' => ∃ T x y, v = .ref T ∧ H T = none ∧ H' = upd H T (.tup [x, y]) ∧ xs[i]? = some x ∧ ys[i]? = some y) :=
  ⟨fun i H hi q => ⟨xs, ys, xs[i], ys[i]'(hl ▸ hi), q, List.getElem?_eq_getElem hi, List.getElem?_eq_getElem (hl ▸ hi)⟩, fun H q => ⟨xs, ys, q, hl, rfl⟩, fun i H v H' hi q ⟨T, x, y, e1, ⟨e2, e3⟩, f, g⟩ => ⟨T, x, y, e1, e2, e3, f xs q.1, g ys q.2⟩⟩
end Xci

namespace Xci
open PySem L2
/-! ### the manners -/
def rk (man : Str) (ws : List Int) (ms : List Int) : Int := if man = "weights" then (ms.map fun m => ws.getD m.toNat 0).sum else (ms.length : Int)
def beatM (man : Str) (ws : List Int) (ms ns : List Int) : Bool := if man = "within" then inside ns ms && decide (ns.length < ms.length) else decide (rk man ws ns < rk man ws ms)
def mkA (es : List Ent) (j : Nat) : List Int := match es[j]? with
  | some e => e.1
  | none => []
def beatA (man : Str) (ws : List Int) (es : List Ent) (n o : Nat) : Bool := beatM man ws (mkA es n) (mkA es o)
theorem mkA_at {es : List Ent} {j : Nat} {e : Ent} (h : es[j]? = some e) : mkA es j = e.1 := by unfold mkA; rw [h]
theorem n_ww : ¬ (("within" : Str) = "weights") := by decide +kernel
theorem n_mostw : ¬ (("most" : Str) = "weights") := by decide +kernel
theorem n_mosti : ¬ (("most" : Str) = "within") := by decide +kernel
theorem n_wi : ¬ (("weights" : Str) = "within") := by decide +kernel
theorem beatM_ok (man : Str) (ws : List Int) (ms : List Int) : beatM man ws ms ms = false := by
  unfold beatM
  split
  · simp
  · exact decide_eq_false (by omega)
theorem beatM_asy {man : Str} {ws : List Int} {ms ns : List Int} (h : beatM man ws ms ns = true) : beatM man ws ns ms = false := by
  unfold beatM at h ⊢
  split at h
  · rename_i e
    rw [if_pos e]
    rw [Bool.and_eq_true, decide_eq_true_iff] at h
    have : decide (ms.length < ns.length) = false := decide_eq_false (by omega)
    rw [this, Bool.and_false]
  · rename_i e
    rw [if_neg e]
    rw [decide_eq_true_iff] at h
    exact decide_eq_false (by omega)
theorem beatA_ok (man : Str) (ws : List Int) (es : List Ent) : Beat (beatA man ws es) := ⟨fun n => beatM_ok _ _ _, fun n o h => beatM_asy h⟩
/-- the highest ones -/
def hi (js : List Nat) (r : Nat → Int) (m : Int) : List Nat := js.filter fun j => decide (r j = m)
structure IsMax (js : List Nat) (r : Nat → Int) (m : Int) : Prop where
  at_ : ∃ j ∈ js, r j = m
  le : ∀ j ∈ js, r j ≤ m
theorem hi_one {js : List Nat} {r : Nat → Int} {m : Int} {n : Nat} (M : IsMax js r m) (h : hi js r m = [n]) : n ∈ js ∧ r n = m ∧ ∀ o ∈ js, o ≠ n → r o < r n := by
  have h1 : n ∈ hi js r m := by rw [h]; simp
  obtain ⟨a, b⟩ := List.mem_filter.mp h1
  have b := of_decide_eq_true b
  refine ⟨a, b, fun o ho hne => ?_⟩
  have l := M.le o ho
  by_cases e : r o = m
  · have : o ∈ hi js r m := List.mem_filter.mpr ⟨ho, decide_eq_true e⟩
    rw [h] at this
    exact absurd (List.mem_singleton.mp this) hne
  · omega
theorem hi_many {js : List Nat} {r : Nat → Int} {m : Int} (hn : js.Nodup) (M : IsMax js r m) (h : 1 < (hi js r m).length) (x : Nat) (hx : x ∈ js) : ∃ o ∈ js, o ≠ x ∧ r x ≤ r o := by
  have nd : (hi js r m).Nodup := List.Sublist.nodup List.filter_sublist hn
  match hl : hi js r m with
  | [] => rw [hl] at h; simp at h
  | [y] => rw [hl] at h; simp at h
  | y :: z :: t =>
    rw [hl] at nd
    have hyz : y ≠ z := fun e => (List.nodup_cons.mp nd).1 (by rw [e]; simp)
    have hy : y ∈ hi js r m := by rw [hl]; simp
    have hz : z ∈ hi js r m := by rw [hl]; simp
    obtain ⟨a1, b1⟩ := List.mem_filter.mp hy
    obtain ⟨a2, b2⟩ := List.mem_filter.mp hz
    have b1 := of_decide_eq_true b1
    have b2 := of_decide_eq_true b2
    have l := M.le x hx
    by_cases e : y = x
    · exact ⟨z, a2, fun q => hyz (by rw [e, q]), by omega⟩
    · exact ⟨y, a1, e, by omega⟩
theorem hi_ne {js : List Nat} {r : Nat → Int} {m : Int} (M : IsMax js r m) : hi js r m ≠ [] := by
  obtain ⟨j, hj, e⟩ := M.at_
  intro q
  have : j ∈ hi js r m := List.mem_filter.mpr ⟨hj, decide_eq_true e⟩
  rw [q] at this
  cases this
def rkA (man : Str) (ws : List Int) (es : List Ent) (j : Nat) : Int := rk man ws (mkA es j)
/-- what beats has the greater rank -/
theorem beat_rk {man : Str} {ws : List Int} {es : List Ent} {n o : Nat} (hw : man ≠ "weights" ∨ man ≠ "within") (h : beatA man ws es n o = true) : rkA man ws es o < rkA man ws es n := by
  unfold beatA beatM at h
  split at h
  · rename_i e
    subst e
    rw [Bool.and_eq_true, decide_eq_true_iff] at h
    unfold rkA rk
    rw [if_neg n_ww, if_neg n_ww]
    omega
  · exact of_decide_eq_true h
theorem many_noWin {man : Str} {ws : List Int} {es : List Ent} {js : List Nat} {m : Int} (hn : js.Nodup) (M : IsMax js (rkA man ws es) m) (h : 1 < (hi js (rkA man ws es) m).length) (n : Nat) : ¬ Win js (beatA man ws es) n := fun w => by
  obtain ⟨o, ho, hne, l⟩ := hi_many hn M h n w.1
  have hw : man ≠ "weights" ∨ man ≠ "within" := by
    by_cases e : man = "weights"
    · exact .inr (by rw [e]; exact n_wi)
    · exact .inl e
  have := beat_rk hw (w.2 o ho hne)
  omega
theorem one_Win {man : Str} {ws : List Int} {es : List Ent} {js : List Nat} {m : Int} {n : Nat} (hm : man ≠ "within") (M : IsMax js (rkA man ws es) m) (h : hi js (rkA man ws es) m = [n]) : Win js (beatA man ws es) n := by
  obtain ⟨a, b, l⟩ := hi_one M h
  refine ⟨a, fun o ho hne => ?_⟩
  unfold beatA beatM
  rw [if_neg hm]
  exact decide_eq_true (l o ho hne)
def holds (es : List Ent) (js : List Nat) (n : Nat) : Bool := js.all fun o => inside (mkA es o) (mkA es n)
theorem rk_within (ws : List Int) (es : List Ent) (j : Nat) : rkA "within" ws es j = ((mkA es j).length : Int) := by
  unfold rkA rk
  rw [if_neg n_ww]
theorem within_Win {ws : List Int} {es : List Ent} {js : List Nat} {m : Int} {n : Nat} (M : IsMax js (rkA "within" ws es) m) (h : hi js (rkA "within" ws es) m = [n]) (hh : holds es js n = true) : Win js (beatA "within" ws es) n := by
  obtain ⟨a, b, l⟩ := hi_one M h
  refine ⟨a, fun o ho hne => ?_⟩
  unfold beatA beatM
  rw [if_pos rfl, Bool.and_eq_true]
  have := l o ho hne
  rw [rk_within, rk_within] at this
  exact ⟨List.all_eq_true.mp hh o ho, decide_eq_true (by omega)⟩
theorem within_noWin {ws : List Int} {es : List Ent} {js : List Nat} {m : Int} {n : Nat} (M : IsMax js (rkA "within" ws es) m) (h : hi js (rkA "within" ws es) m = [n]) (hh : holds es js n = false) (k : Nat) : ¬ Win js (beatA "within" ws es) k := fun w => by
  obtain ⟨a, b, l⟩ := hi_one M h
  have e : n = k := by
    by_cases e : n = k
    · exact e
    · have h1 := beat_rk (.inl n_ww) (w.2 n a e)
      have h2 := l k w.1 (fun q => e q.symm)
      omega
  subst e
  have : holds es js n = true := List.all_eq_true.mpr fun o ho => by
    by_cases e : o = n
    · subst e
      exact List.all_eq_true.mpr fun m hm => decide_eq_true hm
    · have q := w.2 o ho e
      unfold beatA beatM at q
      rw [if_pos rfl, Bool.and_eq_true] at q
      exact q.1
  rw [this] at hh
  cases hh
/-- without a greatest one: the highest are those whom none beats -/
theorem hi_maxB {man : Str} {ws : List Int} {es : List Ent} {js : List Nat} {m : Int} (hm : man ≠ "within") (M : IsMax js (rkA man ws es) m) : js.filter (maxB js (beatA man ws es)) = hi js (rkA man ws es) m := by
  unfold hi
  refine List.filter_congr fun j hj => ?_
  unfold maxB
  have l := M.le j hj
  rw [Bool.eq_iff_iff, decide_eq_true_iff, Bool.not_eq_true', List.any_eq_false]
  constructor
  · intro h
    obtain ⟨o, ho, e⟩ := M.at_
    have := h o ho
    unfold beatA beatM at this
    rw [if_neg hm] at this
    have q : ¬ rkA man ws es j < rkA man ws es o := fun z => this (decide_eq_true z)
    omega
  · intro h o ho
    unfold beatA beatM
    rw [if_neg hm]
    have l2 := M.le o ho
    intro z
    have z := of_decide_eq_true z
    have z : rkA man ws es j < rkA man ws es o := z
    omega
def outdone (es : List Ent) (js : List Nat) (n : Nat) : Bool := (js.filter fun o => decide ((mkA es n).length < (mkA es o).length)).any fun o => inside (mkA es n) (mkA es o)
theorem out_maxB {ws : List Int} {es : List Ent} {js : List Nat} : js.filter (maxB js (beatA "within" ws es)) = js.filter fun n => !outdone es js n := by
  refine List.filter_congr fun j hj => ?_
  unfold maxB outdone
  congr 1
  rw [List.any_filter]
  congr 1
  funext o
  unfold beatA beatM
  rw [if_pos rfl, Bool.and_comm]
/-! ### results as values -/
def ResAt (H : Hp) (v : V) : Res → Prop
  | .none => Tup H v [.str "none"]
  | .ent j => Tup H v [.str "entry", .int (j : Int)]
  | .qua l => ∃ t, Tup H v [.str "quarrel", .ref t] ∧ H t = some (.tup ((nat2 l).map V.int))
theorem ResAt.keep {H H' : Hp} {v : V} {r : Res} (f : TFr H H') (h : ResAt H v r) : ResAt H' v r := by
  cases r with
  | none => exact Tup.keep f h
  | ent j => exact Tup.keep f h
  | qua l =>
    obtain ⟨t, a, b⟩ := h
    exact ⟨t, a.keep f, f _ _ b⟩
def resD : Res → PyData
  | .none => .tuple [.str "none"]
  | .ent j => .tuple [.str "entry", .int (j : Int)]
  | .qua l => .tuple [.str "quarrel", .tuple ((nat2 l).map PyData.int)]
theorem toD_ints (ns : List Int) : (ns.map V.int).map toD = ns.map PyData.int := by
  rw [List.map_map]
  rfl
theorem flat0_ints (ns : List Int) : (ns.map V.int).all flat0 = true := by
  rw [List.all_map]; exact List.all_eq_true.mpr fun _ _ => rfl
theorem dp_res {K : PySem.W.Frag} {H : Hp} {v : V} {r : Res} (h : ResAt H v r) : Dp K H v (resD r) := by
  cases r with
  | none => exact dp_tup h rfl
  | ent j => exact dp_tup h rfl
  | qua l =>
    obtain ⟨t, ⟨p, rfl, hp⟩, ht⟩ := h
    have q := dp_tup (K := K) (v := .ref t) ⟨t, rfl, ht⟩ (flat0_ints (nat2 l))
    rw [toD_ints] at q
    exact .tup (sqT hp) (.cons (.str _) (.cons q .nil))
theorem lay_ints (ns : List Int) : PyData.canLayAll0 (ns.map PyData.int) = true ∧ PyData.depthAll (ns.map PyData.int) = 0 := by
  induction ns with
  | nil => exact ⟨rfl, rfl⟩
  | cons n r ih =>
    rw [List.map_cons]
    simp [PyData.canLayAll0, PyData.depthAll, PyData.canLay0, PyData.depth, ih.1, ih.2]
theorem sh_ints (ns : List Int) : SeqAt.shaped (.list (ns.map PyData.int)) = true := by
  obtain ⟨a, b⟩ := lay_ints ns
  simp [SeqAt.shaped, PyData.canLay0, PyData.depth, a, b]
theorem eqv_ints (ns : List Int) : PyData.eqvAll (ns.map PyData.int) (ns.map PyData.int) = true := by
  induction ns with
  | nil => rfl
  | cons n r ih =>
    rw [List.map_cons]
    simp [PyData.eqvAll, PyData.eqv, ih]
theorem sh_res (r : Res) : SeqAt.shaped (resD r) = true := by
  cases r with
  | none => exact sh1
  | ent j => exact sh2 _
  | qua l =>
    obtain ⟨a, b⟩ := lay_ints (nat2 l)
    have h : PyData.canLay0 (.str "quarrel") = true := by decide +kernel
    simp [resD, SeqAt.shaped, PyData.canLay0, PyData.canLayAll0, PyData.depth, PyData.depthAll, a, b]
    simpa [PyData.canLay0] using h
theorem eqv_res (r : Res) : PyData.eqv (resD r) (resD r) = true := by
  cases r with
  | none => exact eqv1 _
  | ent j =>
    show PyData.eqv (.tuple [.str "entry", .int (j : Int)]) (.tuple [.str "entry", .int (j : Int)]) = true
    rw [eqv2]
    exact decide_eq_true rfl
  | qua l =>
    have := eqv_ints (nat2 l)
    simp [resD, PyData.eqv, PyData.eqvAll, this]
/-! ### books of all manners -/
def WtIs (H : Hp) (man : Str) (wt : V) (ws : List Int) : Prop := (man ≠ "weights" ∧ wt = .non) ∨ (man = "weights" ∧ Xci.Mk H wt ws ∧ ws.length = 6 ∧ ∀ x ∈ ws, 0 ≤ x ∧ x ≤ 1000000)
theorem WtIs.keep {H H' : Hp} {man : Str} {wt : V} {ws : List Int} (f : TFr H H') (h : WtIs H man wt ws) : WtIs H' man wt ws := h.imp id fun ⟨a, b, c⟩ => ⟨a, Tup.keep f b, c⟩
theorem WtIs.ok {H : Hp} {man : Str} {wt : V} {ws : List Int} (h : WtIs H man wt ws) : WtOk H man wt := h.imp id fun ⟨a, b, c⟩ => ⟨a, ws, b, c⟩
structure BookSt (C : Addr) (H : Hp) (b : Addr) (man : Str) (ws : List Int) (es : List Ent) : Prop where
  ex : ∃ (p : Addr) (wt : V) (ys : List V), BookAt C H b man p wt ∧ H p = some (.tup ys) ∧ Ents H ys es ∧ WtIs H man wt ws
  ok : ∀ e ∈ es, EntOk e
  len : es.length ≤ 40
theorem BookSt.same {C : Addr} {H H' : Hp} {b : Addr} {man : Str} {ws : List Int} {es : List Ent} (h : BookSt C H b man ws es) (f : Same H H') : BookSt C H' b man ws es := by
  obtain ⟨⟨p, wt, ys, ⟨dx, a1⟩, a2, a3, a4⟩, b1, b2⟩ := h
  exact ⟨⟨p, wt, ys, ⟨dx, f _ _ a1⟩, f _ _ a2, Ents.keep (TFr.same f) a3, a4.keep (TFr.same f)⟩, b1, b2⟩
/-- the numbers js, all of entries -/
def Nums (H : Hp) (q : Addr) (js : List Nat) : Prop := H q = some (.tup ((nat2 js).map V.int))
theorem num_of {js : List Nat} {i : Nat} {y : V} (h : ((nat2 js).map V.int)[i]? = some y) : ∃ j, js[i]? = some j ∧ y = V.int (j : Int) := by
  obtain ⟨z, hz, rfl⟩ := int_of h
  unfold nat2 at hz
  rw [List.getElem?_map] at hz
  cases e : js[i]? with
  | none => rw [e] at hz; cases hz
  | some j => rw [e] at hz; exact ⟨j, rfl, by rw [← Option.some.inj hz]⟩
theorem nat2_len (js : List Nat) : (nat2 js).length = js.length := by unfold nat2; rw [List.length_map]
def spRank (C : Addr) : Sp := fun vs H Q _ => ∃ (b : Addr) (man : Str) (ws : List Int) (es : List Ent) (j : Nat), vs = [.ref b, .int (j : Int)] ∧ BookSt C H b man ws es ∧ j < es.length ∧ ∀ H', Same H H' → Q (.int (rkA man ws es j)) H'
def spHighest (C : Addr) : Sp := fun vs H Q _ => ∃ (b q : Addr) (man : Str) (ws : List Int) (es : List Ent) (js : List Nat), vs = [.ref b, .ref q] ∧ BookSt C H b man ws es ∧ Nums H q js ∧ (∀ j ∈ js, j < es.length) ∧ js ≠ [] ∧ js.length ≤ 40 ∧
  ∀ (t : Addr) (m : Int) (H' : Hp), IsMax js (rkA man ws es) m → Nums H' t (hi js (rkA man ws es) m) → Same H H' → Q (.ref t) H'
def spHolds (C : Addr) : Sp := fun vs H Q _ => ∃ (b q : Addr) (man : Str) (ws : List Int) (es : List Ent) (js : List Nat) (n : Nat), vs = [.ref b, .int (n : Int), .ref q] ∧ BookSt C H b man ws es ∧ Nums H q js ∧ (∀ j ∈ js, j < es.length) ∧ n < es.length ∧ js.length ≤ 40 ∧ ∀ H', Same H H' → Q (.bl (holds es js n)) H'
def spOutdone (C : Addr) : Sp := fun vs H Q _ => ∃ (b q : Addr) (man : Str) (ws : List Int) (es : List Ent) (js : List Nat) (n : Nat), vs = [.ref b, .int (n : Int), .ref q] ∧ BookSt C H b man ws es ∧ Nums H q js ∧ (∀ j ∈ js, j < es.length) ∧ n < es.length ∧ js.length ≤ 40 ∧ ∀ H', Same H H' → Q (.bl (outdone es js n)) H'
def Man3 (man : Str) : Prop := man = "within" ∨ man = "weights" ∨ man = "most"
def spQuarrel (C : Addr) : Sp := fun vs H Q _ => ∃ (b q : Addr) (man : Str) (ws : List Int) (es : List Ent) (js : List Nat), vs = [.ref b, .ref q] ∧ BookSt C H b man ws es ∧ Nums H q js ∧ (∀ j ∈ js, j < es.length) ∧ js ≠ [] ∧ js.length ≤ 40 ∧
  ∀ (t : Addr) (H' : Hp), Nums H' t (js.filter (maxB js (beatA man ws es))) → Same H H' → Q (.ref t) H'
def resV : Res → V
  | .ent j => .int (j : Int)
  | _ => .non
def spSpeaking (C : Addr) : Sp := fun vs H Q _ => ∃ (b q : Addr) (man : Str) (ws : List Int) (es : List Ent) (js : List Nat), vs = [.ref b, .ref q] ∧ BookSt C H b man ws es ∧ Man3 man ∧ Nums H q js ∧ (∀ j ∈ js, j < es.length) ∧ js.Nodup ∧ js.length ≤ 40 ∧
  ∀ H', Same H H' → Q (resV (lawRes js (beatA man ws es))) H'
def spSpeaker (C : Addr) : Sp := fun vs H Q _ => ∃ (b : Addr) (v : V) (man : Str) (ws : List Int) (es : List Ent) (ms : List Int), vs = [.ref b, v] ∧ BookSt C H b man ws es ∧ Man3 man ∧ Xci.Mk H v ms ∧ MarksOk 6 ms ∧
  ∀ (u : V) (H' : Hp), ResAt H' u (lawRes (fitN es ms) (beatA man ws es)) → Same H H' → Q u H'
def spBeats : Sp := fun vs H Q _ => ∃ (man : Str) (wt u v : V) (ws ms ns : List Int), vs = [.str man, wt, u, v] ∧ Man3 man ∧ WtIs H man wt ws ∧ Xci.Mk H u ms ∧ Xci.Mk H v ns ∧ MarksOk 6 ms ∧ MarksOk 6 ns ∧ ∀ H', Same H H' → Q (.bl (beatM man ws ms ns)) H'
def spSum : Sp := fun vs H Q _ => ∃ (wt u : V) (ws ms : List Int), vs = [wt, u] ∧ Xci.Mk H wt ws ∧ ws.length = 6 ∧ Xci.Mk H u ms ∧ MarksOk 6 ms ∧ ∀ H', Same H H' → Q (.int (ms.map fun m => ws.getD m.toNat 0).sum) H'
def spProper : Sp := fun vs H Q _ => ∃ (u v : V) (ms ns : List Int), vs = [u, v] ∧ Xci.Mk H u ms ∧ Xci.Mk H v ns ∧ ms.length ≤ 1000 ∧ ∀ H', Same H H' → Q (.bl (inside ms ns && decide (ms.length < ns.length))) H'
def spSpeaks (K : PySem.W.Frag) : Sp := fun vs H Q _ => ∃ (man : Str) (p : Addr) (wt v : V) (ys : List V) (ws : List Int) (es : List Ent) (ms : List Int), vs = [.str man, .ref p, wt, v] ∧ Man3 man ∧ WtIs H man wt ws ∧ H p = some (.tup ys) ∧ Ents H ys es ∧ (∀ e ∈ es, EntOk e) ∧ es.length ≤ 1000 ∧ Xci.Mk H v ms ∧
  ∀ (u : V) (H' : Hp), ResAt H' u (lawRes (fitN es ms) (beatA man ws es)) → Same H H' → Q u H'
theorem fit_nd (es : List Ent) (ms : List Int) : (fitN es ms).Nodup := List.Sublist.nodup List.filter_sublist List.nodup_range
theorem fit_lt {es : List Ent} {ms : List Int} : ∀ j ∈ fitN es ms, j < es.length := fun j hj => List.mem_range.mp (List.mem_filter.mp hj).1
theorem fitN_len (es : List Ent) (ms : List Int) : (fitN es ms).length ≤ es.length := Nat.le_trans (List.length_filter_le _ _) (by rw [List.length_range]; exact Nat.le_refl _)
end Xci

namespace Xci
open PySem L2
/-! ### things that compare: what is written in a tuple or a list of ints, texts, None -/
def pd : V → PyData
  | .int i => .int i
  | .str x => .str x
  | .bl b => .bool b
  | _ => .none
def okV : V → Bool
  | .int _ => true
  | .str x => PyData.strOk x
  | .bl _ => true
  | .non => true
  | _ => false
theorem dpV {K : PySem.W.Frag} {H : Hp} {x : V} (h : okV x = true) : Dp K H x (pd x) := by
  cases x with
  | int i => exact .int i
  | str z => exact .str z
  | bl b => exact .bl b
  | non => exact .non
  | byt _ => cases h
  | flt _ => cases h
  | ref _ => cases h
  | ty _ => cases h
theorem layV {x : V} (h : okV x = true) : PyData.canLay0 (pd x) = true ∧ PyData.depth (pd x) = 0 := by
  cases x with
  | int i => exact ⟨by simp [pd, PyData.canLay0], by simp [pd, PyData.depth]⟩
  | str z => exact ⟨by simpa [pd, PyData.canLay0, okV] using h, by simp [pd, PyData.depth]⟩
  | bl b => exact ⟨by simp [pd, PyData.canLay0], by simp [pd, PyData.depth]⟩
  | non => exact ⟨by simp [pd, PyData.canLay0], by simp [pd, PyData.depth]⟩
  | byt _ => cases h
  | flt _ => cases h
  | ref _ => cases h
  | ty _ => cases h
theorem dpVs {K : PySem.W.Frag} {H : Hp} : ∀ {xs : List V}, (∀ x ∈ xs, okV x = true) → DpAll K H xs (xs.map pd)
  | [], _ => .nil
  | x :: r, h => .cons (dpV (h x List.mem_cons_self)) (dpVs fun y hy => h y (List.mem_cons_of_mem _ hy))
theorem layVs : ∀ {xs : List V}, (∀ x ∈ xs, okV x = true) → PyData.canLayAll0 (xs.map pd) = true ∧ PyData.depthAll (xs.map pd) = 0
  | [], _ => ⟨rfl, rfl⟩
  | x :: r, h => by
    obtain ⟨a, b⟩ := layV (h x List.mem_cons_self)
    obtain ⟨c, d⟩ := layVs (xs := r) fun y hy => h y (List.mem_cons_of_mem _ hy)
    rw [List.map_cons]
    simp [PyData.canLayAll0, PyData.depthAll, a, b, c, d]
theorem sh_tup {xs : List V} (h : ∀ x ∈ xs, okV x = true) : SeqAt.shaped (.tuple (xs.map pd)) = true := by
  obtain ⟨a, b⟩ := layVs h
  simp [SeqAt.shaped, PyData.canLay0, PyData.depth, a, b]
theorem sh_lst {xs : List V} (h : ∀ x ∈ xs, okV x = true) : SeqAt.shaped (.list (xs.map pd)) = true := by
  obtain ⟨a, b⟩ := layVs h
  simp [SeqAt.shaped, PyData.canLay0, PyData.depth, a, b]
theorem eqv_same {d : PyData} (h : SeqAt.shaped d = true) : PyData.eqv d d = true := SeqAt.eqv_refl d (SeqAt.canLay_of_shaped h)
/-- u != v of two tuples with the same things: no -/
theorem ne_tup {K : PySem.W.Frag} {H : Hp} {u v : V} {xs : List V} {Q : V → Hp → Prop} (tu : Tup H u xs) (tv : Tup H v xs) (ok : ∀ x ∈ xs, okV x = true) (q : Q (.bl false) H) : rNeD K u v H Q := by
  obtain ⟨a, rfl, ha⟩ := tu
  obtain ⟨b, rfl, hb⟩ := tv
  refine ⟨.tuple (xs.map pd), .tuple (xs.map pd), .tup (sqT ha) (dpVs ok), .tup (sqT hb) (dpVs ok), sh_tup ok, sh_tup ok, ?_⟩
  rw [eqv_same (sh_tup ok)]
  exact q
theorem ne_lst {K : PySem.W.Frag} {H : Hp} {a b : Addr} {xs : List V} {Q : V → Hp → Prop} (ha : H a = some (.lst xs)) (hb : H b = some (.lst xs)) (ok : ∀ x ∈ xs, okV x = true) (q : Q (.bl false) H) : rNeD K (.ref a) (.ref b) H Q := by
  refine ⟨.list (xs.map pd), .list (xs.map pd), .lst (SqL.of ha) (dpVs ok), .lst (SqL.of hb) (dpVs ok), sh_lst ok, sh_lst ok, ?_⟩
  rw [eqv_same (sh_lst ok)]
  exact q
theorem ok_intsV (ns : List Int) : ∀ x ∈ ns.map V.int, okV x = true := fun x hx => by
  obtain ⟨n, _, rfl⟩ := List.mem_map.mp hx
  rfl
theorem WordOk.strOk {z : Str} (h : WordOk z) : PyData.strOk z = true := by
  unfold PyData.strOk
  rw [← Array.all_toList, List.all_eq_true]
  intro c hc
  have := h.az c hc
  exact decide_eq_true (by omega)
theorem ok_strsV {zs : List Str} (h : ∀ z ∈ zs, WordOk z) : ∀ x ∈ zs.map V.str, okV x = true := fun x hx => by
  obtain ⟨z, hz, rfl⟩ := List.mem_map.mp hx
  exact (h z hz).strOk
theorem ok_formsV {fs : List (Option Str)} (h : ∀ z, some z ∈ fs → WordOk z) : ∀ x ∈ fs.map formV, okV x = true := fun x hx => by
  obtain ⟨f, hf, rfl⟩ := List.mem_map.mp hx
  cases f with
  | none => rfl
  | some z => exact (h z hf).strOk
theorem cutTo (xs : List V) (k : Nat) : cutV xs none (some (k : Int)) = xs.take k := by
  unfold cutV
  have e0 : HT.sIx xs.length 0 none = 0 := rfl
  rw [e0, HT.sIx_nat, List.drop_zero, Nat.sub_zero, ← List.take_take, List.take_length]
theorem forms_inV (z : Str) (fs : List (Option Str)) : inV (.str z) (fs.map formV) = decide (some z ∈ fs) := by
  unfold inV
  rw [List.any_map]
  induction fs with
  | nil => rfl
  | cons a r ih =>
    rw [List.any_cons, ih]
    cases a with
    | none =>
      show (false || decide (some z ∈ r)) = decide (some z ∈ none :: r)
      simp
    | some y =>
      show ((y == z) || decide (some z ∈ r)) = decide (some z ∈ some y :: r)
      by_cases e : y = z
      · subst e; simp
      · have e' : ¬ z = y := fun q => e q.symm
        simp [e, e']
/-- the numbers of the open cells -/
def openN (fs : List (Option Str)) (i : Nat) : List Nat := (List.range i).filter fun j => decide (fs[j]? = some none)
theorem open_next {fs : List (Option Str)} {i : Nat} {f : Option Str} (e : fs[i]? = some f) : openN fs (i + 1) = openN fs i ++ (if f = none then [i] else []) := by
  unfold openN
  rw [List.range_succ, List.filter_append, List.filter_cons, List.filter_nil, e]
  by_cases q : f = none
  · rw [if_pos q, if_pos (decide_eq_true (congrArg some q))]
  · rw [if_neg q, if_neg (fun h => q (Option.some.inj (of_decide_eq_true h)))]
theorem open_len (fs : List (Option Str)) (i : Nat) : (openN fs i).length ≤ i := by
  have h := List.length_filter_le (fun j => decide (fs[j]? = some none)) (List.range i)
  rw [List.length_range] at h
  exact h
/-- the cells that are open or have one of these forms, each once -/
structure SeenOk (fs : List (Option Str)) (done : List Str) (js : List Nat) : Prop where
  nd : js.Nodup
  all : ∀ j, j ∈ js ↔ fs[j]? = some none ∨ ∃ z ∈ done, fs[j]? = some (some z)
theorem SeenOk.start (fs : List (Option Str)) : SeenOk fs [] (openN fs fs.length) := by
  refine ⟨List.Sublist.nodup List.filter_sublist List.nodup_range, fun j => ?_⟩
  unfold openN
  rw [List.mem_filter, List.mem_range, decide_eq_true_eq]
  constructor
  · exact fun h => .inl h.2
  · rintro (h | ⟨z, hz, _⟩)
    · exact ⟨(List.getElem?_eq_some_iff.mp h).1, h⟩
    · cases hz
theorem spots_nd (fs : List (Option Str)) (z : Str) : (spots fs z).Nodup := List.Sublist.nodup List.filter_sublist List.nodup_range
theorem SeenOk.next {fs : List (Option Str)} {done : List Str} {js : List Nat} {z : Str} (h : SeenOk fs done js) (new : z ∉ done) : SeenOk fs (done ++ [z]) (js ++ spots fs z) := by
  refine ⟨List.nodup_append.mpr ⟨h.nd, spots_nd fs z, fun a ha b hb e => ?_⟩, fun j => ?_⟩
  · subst e
    have q := spots_at.mp hb
    rcases (h.all a).mp ha with r | ⟨y, hy, r⟩
    · rw [q] at r; cases r
    · rw [q] at r
      have : z = y := Option.some.inj (Option.some.inj r)
      subst this
      exact new hy
  · rw [List.mem_append, h.all j, spots_at]
    constructor
    · rintro ((r | ⟨y, hy, r⟩) | r)
      · exact .inl r
      · exact .inr ⟨y, List.mem_append_left _ hy, r⟩
      · exact .inr ⟨z, List.mem_append_right _ (List.mem_singleton.mpr rfl), r⟩
    · rintro (r | ⟨y, hy, r⟩)
      · exact .inl (.inl r)
      · rcases List.mem_append.mp hy with hy | hy
        · exact .inl (.inr ⟨y, hy, r⟩)
        · rw [List.mem_singleton.mp hy] at r
          exact .inr r
theorem SeenOk.whole {fs : List (Option Str)} {zs : List Str} {js : List Nat} (h : SeenOk fs zs js) (r : ∀ z, z ∈ zs ↔ some z ∈ fs) : js.Perm (List.range fs.length) := by
  refine (List.perm_ext_iff_of_nodup h.nd List.nodup_range).mpr fun j => ?_
  rw [h.all j, List.mem_range]
  constructor
  · rintro (q | ⟨z, _, q⟩)
    · exact (List.getElem?_eq_some_iff.mp q).1
    · exact (List.getElem?_eq_some_iff.mp q).1
  · intro lt
    have q : fs[j]? = some fs[j] := List.getElem?_eq_getElem lt
    cases e : fs[j] with
    | none => rw [e] at q; exact .inl q
    | some z =>
      rw [e] at q
      exact .inr ⟨z, (r z).mpr (List.mem_of_getElem? q), q⟩
/-- sorted numbers that are a perm of 0 .. n are these -/
theorem sorted_rng {ns : List Int} {js : List Nat} {n : Nat} (p : ns.Perm (nat2 js)) (q : js.Perm (List.range n)) (up : ns.Pairwise (· ≤ ·)) : ns = rng (n : Int) := by
  have e : rng (n : Int) = nat2 (List.range n) := by unfold rng nat2; rw [Int.toNat_natCast]
  have pp : ns.Perm (rng (n : Int)) := by
    rw [e]
    exact p.trans (q.map _)
  refine List.Perm.eq_of_pairwise (le := (· ≤ ·)) (fun a b _ _ h k => by omega) up ((rng_ok (n : Int)).up.imp fun h => by omega) pp
/-- told forms that came for the first time, as they come -/
theorem first_next {fs : List (Option Str)} {i : Nat} {seen : List Str} {z : Str} (h : ∀ y, y ∈ seen ↔ some y ∈ fs.take i) (e : fs[i]? = some (some z)) : ∀ y, y ∈ (if some z ∈ fs.take i then seen else seen ++ [z]) ↔ some y ∈ fs.take (i + 1) := fun y => by
  rw [List.take_add_one, e, List.mem_append]
  split
  · rename_i old
    rw [h y]
    constructor
    · exact .inl
    · rintro (q | q)
      · exact q
      · have : y = z := Option.some.inj (List.mem_singleton.mp q)
        rw [this]; exact old
  · rw [List.mem_append, h y, List.mem_singleton]
    constructor
    · rintro (q | q)
      · exact .inl q
      · rw [q]; exact .inr (List.mem_singleton.mpr rfl)
    · rintro (q | q)
      · exact .inl q
      · exact .inr (Option.some.inj (List.mem_singleton.mp q))
end Xci

set_option maxHeartbeats 4000000
/-! ### sorted(a list of tuples of ints, of whatever lengths) -/
namespace TI
open PySem PyProof.Rows Srt SrtO
section
variable {prog : Program} {w : World} {A : Around} {E : Value → Shared → Prop} {s : Shared}
theorem lex_walk {b fin : Bool} {Q : Bool → Shared → Prop} : ∀ {xs ys : List Value} {ns ms : List Int} (i : Nat), IntsAre xs ns → IntsAre ys ms → fin = decide (ns.length < ms.length) → Q (HT.lexLt ns ms) s → PySem.W.KatLex prog w A b fin Q (xs.zip ys) i s
  | _, _, _, _, _, .nil, .nil, ef, q => by
    have e : fin = false := ef.trans (decide_eq_false (Nat.lt_irrefl _))
    rw [HT.lexLt_nil_nil, ← e] at q
    exact PySem.W.kat_nil q
  | _, _, _, _, _, .nil, .cons c u _, ef, q => by
    have e : fin = true := ef.trans (decide_eq_true (Nat.zero_lt_succ _))
    rw [HT.lexLt_nil_cons, ← e] at q
    exact PySem.W.kat_nil q
  | _, _, _, _, _, .cons c u _, .nil, ef, q => by
    have e : fin = false := ef.trans (decide_eq_false (Nat.not_lt_zero _))
    rw [HT.lexLt_cons_nil, ← e] at q
    exact PySem.W.kat_nil q
  | _, _, _, _, i, .cons c u hx, .cons d v hy, ef, q => by
    rw [HT.lexLt_cons] at q
    refine PySem.W.kat_cons (SeqAt.EqAt.int_int c u d v prog w _ _ ?_)
    refine PySem.W.kat_go (fun same => PySem.W.kat_yes ?_) (fun other => PySem.W.kat_no (TS.oneLt_ints _ ?_))
    · have e : c = d := by simpa using same
      rw [if_pos e] at q
      exact lex_walk (i + 1) hx hy (ef.trans (by rw [List.length_cons, List.length_cons]; exact decide_eq_decide.mpr Nat.succ_lt_succ_iff)) q
    · have e : ¬ c = d := by simpa using other
      rw [if_neg e] at q
      exact q
theorem size_ints {xs : Array Value} {ns : List Int} (i : IntsAre xs.toList ns) : xs.size = ns.length := by
  rw [← i.length, Array.length_toList]
/-- two tuples of ints, by what the sort knows of the keys -/
theorem lt_tuples {x : Bool} {v u : Value} {ns ms : List Int} {Q : Bool → Shared → Prop} (hv : TS.TupInts s.heap v ns) (hu : TS.TupInts s.heap u ms) (q : Q (HT.lexLt ns ms) s) : wpAny (model prog w) A (keyLt' (tuples' x) v u) Q E s := by
  obtain ⟨a, xs, rfl, ⟨o, go, _, n, dat⟩, i⟩ := hv
  obtain ⟨b, ys, rfl, ⟨o', go', _, n', dat'⟩, i'⟩ := hu
  refine PySem.W.kat_lt go dat go' dat' (lex_walk 0 i i' ?_ q)
  rw [size_ints i, size_ints i']
theorem lt_oneType {v u : Value} {ns ms : List Int} {Q : Bool → Shared → Prop} (room : A.units < cLine) (hv : TS.TupInts s.heap v ns) (hu : TS.TupInts s.heap u ms) (q : Q (HT.lexLt ns ms) s) : wpAny (model prog w) A (keyLt' oneType' v u) Q E s := by
  obtain ⟨a, xs, rfl, ⟨⟨cls, dd, data, sl⟩, go, ec, n, ed⟩, i⟩ := hv
  obtain ⟨b, ys, rfl, ⟨⟨cls', dd', data', sl'⟩, go', ec', n', ed'⟩, i'⟩ := hu
  simp only at ec ed ec' ed'
  subst ec ed ec' ed'
  rw [keyLt'_oneType, oneLt'_eq]
  simp only [if_true]
  refine wpAny_bind (wpAny_cRoomFor room ?_)
  refine wpAny_bind (wpAny_callSpecialIfBound?_slot (T := "tuple") ⟨_, go, rfl⟩ PySem.F.slot_tuple_lt ?_)
  refine call_meets PySem.F.slot_tuple_lt ⟨_, go, rfl⟩ PySem.F.entry_tuple_lt (PySem.F.args_tuple_lt_2 _ _) (HT.tuple_lt_ints a b xs ys n n' dd dd' sl sl' ns ms i i') ⟨go, go', ?_⟩
  exact wpAny_truthy_bool q
theorem lt_general {v u : Value} {ns ms : List Int} {Q : Bool → Shared → Prop} (room : A.units < cLine) (hv : TS.TupInts s.heap v ns) (hu : TS.TupInts s.heap u ms) (q : Q (HT.lexLt ns ms) s) : wpAny (model prog w) A (keyLt' general' v u) Q E s := by
  obtain ⟨a, xs, rfl, t, i⟩ := hv
  obtain ⟨b, ys, rfl, t', i'⟩ := hu
  exact PySem.W.kat_one _ _ (HT.lt_tupInts (Q := PySem.W.BoolBack Q) t t' i i' room q)
/-- what is looked at first: the tuples' own firsts -/
theorem firsts_any : ∀ {vs : List Value}, (∀ v ∈ vs, ∃ ns, TS.TupInts s.heap v ns) → ∃ rs : List (Option Value), rs.length = vs.length ∧ (∀ (i : Nat) (v : Value) (ns : List Int), vs[i]? = some v → TS.TupInts s.heap v ns → ns = [] → rs[i]? = some none) ∧
    ∀ (Q : List (Option Value) → Shared → Prop) (E : Value → Shared → Prop), Q rs s → wpAny (model prog w) A (vs.mapM firstOfTuple') Q E s
  | [], _ => ⟨[], rfl, fun i v ns h => (by simp at h), fun Q E q => by rw [List.mapM_nil]; exact wpAny_pure q⟩
  | v :: vs, h => by
    obtain ⟨rs, l, e, g⟩ := firsts_any (vs := vs) fun u m => h u (List.mem_cons_of_mem _ m)
    obtain ⟨ns, T⟩ := h v List.mem_cons_self
    obtain ⟨a, xs, rfl, ⟨o, go, ec, n, ed⟩, i⟩ := id T
    refine ⟨xs[0]? :: rs, by rw [List.length_cons, List.length_cons, l], fun k u ms hu hm em => ?_, fun Q E q => ?_⟩
    · cases k with
      | zero =>
        obtain rfl : Value.ref a = u := Option.some.inj hu
        have es : ns = ms := T.ints.symm.trans hm.ints
        subst es
        subst em
        have z := size_ints i
        show some xs[0]? = some none
        rw [Array.getElem?_eq_none (by rw [z]; exact Nat.le_refl _)]
      | succ k => exact e k u ms hu hm em
    · rw [List.mapM_cons]
      refine wpAny_bind ?_
      rw [PySem.W.kas_first_eq]
      refine wpAny_bind (PySem.W.Looks.here (show PySem.W.Looks (model prog w) s.heap (typeOf (.ref a)) o.cls from (PySem.W.Looks.ld go).andThen .now) ?_)
      rw [ec, if_neg (by first | decide | simp)]
      refine wpAny_bind (listItems_at go ed (wpAny_pure ?_))
      exact wpAny_bind (g (fun bs s' => wpAny (model prog w) A (pure (xs[0]? :: bs)) Q E s') E (wpAny_pure q))
theorem type_tuple {v : Value} {ns : List Int} {M : Model} (T : TS.TupInts s.heap v ns) : PySem.W.Looks M s.heap (typeOf v) (.type "tuple") := by
  obtain ⟨a, xs, rfl, ⟨o, go, ec, n, ed⟩, i⟩ := T
  rw [← ec]
  exact (PySem.W.Looks.ld go).andThen .now
/-- some tuple is empty: the kind is that of one type, or of any -/
theorem kind_some_empty {vs : List Value} (h2 : 2 ≤ vs.length) (h : ∀ v ∈ vs, ∃ ns, TS.TupInts s.heap v ns) {v0 : Value} (m0 : v0 ∈ vs) (t0 : TS.TupInts s.heap v0 []) : ∃ κ, (κ = oneType' ∨ κ = general') ∧
    ∀ (Q : SortKind → Shared → Prop) (E : Value → Shared → Prop), Q κ s → wpAny (model prog w) A (keyKind' vs.toArray) Q E s := by
  obtain ⟨rs, l, e, g⟩ := firsts_any (prog := prog) (w := w) (A := A) h
  obtain ⟨i, hi⟩ := List.getElem?_of_mem m0
  have none_ : ¬ (rs.toArray.all fun x => x.isSome) = true := fun all => by
    rw [List.all_toArray, List.all_eq_true] at all
    have z := all none (List.mem_of_getElem? (e i v0 [] hi t0 rfl))
    cases z
  by_cases hd : (rs.toArray[0]?.bind id).isSome = true
  · refine ⟨general', .inr rfl, fun Q E q => ?_⟩
    rw [keyKind'_eq, List.mapM_toArray, map_eq_pure_bind]
    refine wpAny_bind (wpAny_bind (g _ E (wpAny_pure ?_)))
    rw [if_neg none_, if_pos hd]
    exact wpAny_pure q
  · refine ⟨oneType', .inl rfl, fun Q E q => ?_⟩
    rw [keyKind'_eq, List.mapM_toArray, map_eq_pure_bind]
    refine wpAny_bind (wpAny_bind (g _ E (wpAny_pure ?_)))
    rw [if_neg none_, if_neg hd]
    rw [oneTypeOnly'_eq, List.mapM_toArray, map_eq_pure_bind]
    refine wpAny_bind (wpAny_bind (wpAny_bind (PySem.W.kas_mapM (r := Value.type "tuple") _ (fun v hv Q' hq => by
      obtain ⟨ns, T⟩ := h v hv
      exact (type_tuple T).here hq) (wpAny_pure ?_))))
    have all : ((List.map (fun _ => Value.type "tuple") vs).toArray.all fun x => x == Value.type "tuple") = true := by
      rw [List.all_toArray, List.all_map, List.all_eq_true]
      intro _ _
      exact beq_self_eq_true _
    have first : (List.map (fun _ => Value.type "tuple") vs).toArray[0]? = some (Value.type "tuple") := by
      cases vs with
      | nil => exact absurd h2 (by decide)
      | cons v vs => rfl
    rw [first]
    simp only [all, if_true]
    exact wpAny_pure (wpAny_pure q)
theorem firsts_full {h : Heap} : ∀ {vs : List Value}, (∀ v ∈ vs, ∃ n ns, TS.TupInts h v (n :: ns)) → ∃ fs : List Value, PySem.W.KatTups h vs fs ∧ fs.length = vs.length ∧ ∀ f ∈ fs, ∃ x t, f = Value.int x t
  | [], _ => ⟨[], .nil, rfl, nofun⟩
  | v :: vs, hv => by
    obtain ⟨fs, k, l, z⟩ := firsts_full (vs := vs) fun u m => hv u (List.mem_cons_of_mem _ m)
    obtain ⟨n, ns, a, xs, rfl, ⟨o, go, ec, c, ed⟩, i⟩ := hv v List.mem_cons_self
    generalize er : xs.toList = r at i
    cases i with
    | cons _ t i' =>
      rename_i us
      have at0 : xs[0]? = some (Value.int n t) := by rw [← Array.getElem?_toList, er] <;> rfl
      refine ⟨Value.int n t :: fs, .cons go ec ed at0 k, by rw [List.length_cons, List.length_cons, l], fun f hf => ?_⟩
      rcases List.mem_cons.mp hf with e | hf
      · exact ⟨n, t, e⟩
      · exact z f hf
theorem tuples_sortable {a : Addr} {vs : List Value} {k : Value → List Int} (room : A.units < cLine) (h2 : 2 ≤ vs.length) (hv : ∀ v ∈ vs, TS.TupInts s.heap v (k v)) (ha : ∀ o, s.heap.get? a = some o → o.cls ≠ .type "tuple") :
    SortableO prog w A s a vs fun v u => HT.lexLt (k v) (k u) := by
  intro h' keep
  have hv' : ∀ v ∈ vs, TS.TupInts h' v (k v) := fun v m => (hv v m).keeps fun b o e c => keep b o (fun z => by subst z; exact ha o e c) e
  by_cases full : ∀ v ∈ vs, k v ≠ []
  · obtain ⟨fs, t, l, z⟩ := firsts_full (h := h') (vs := vs) fun v m => by
      cases e : k v with
      | nil => exact absurd e (full v m)
      | cons n ns => exact ⟨n, ns, e ▸ hv' v m⟩
    refine ⟨tuples' true, fun Q E q => ?_, fun p r hp hr => lt_tuples (hv' _ hp) (hv' _ hr) ⟨rfl, rfl⟩⟩
    refine PySem.W.kat_kind (T := .type "int") t (by omega) (fun f hm => ?_) (by rfl) ?_
    · obtain ⟨x, u, rfl⟩ := z f hm
      exact PySem.W.Looks.now
    · rw [show (Value.type "int" != Value.type "tuple") = true from by first | decide +kernel | rfl | decide]
      exact q
  · obtain ⟨v0, m0, e0⟩ : ∃ v ∈ vs, k v = [] := by
      refine Classical.byContradiction fun no => full fun v m e => no ⟨v, m, e⟩
    obtain ⟨κ, hκ, kind⟩ := kind_some_empty (prog := prog) (w := w) (A := A) (s := { s with heap := h' }) h2 (fun v m => ⟨_, hv' v m⟩) m0 (e0 ▸ hv' v0 m0)
    refine ⟨κ, kind, fun p r hp hr => ?_⟩
    rcases hκ with rfl | rfl
    · exact lt_oneType room (hv' _ hp) (hv' _ hr) ⟨rfl, rfl⟩
    · exact lt_general room (hv' _ hp) (hv' _ hr) ⟨rfl, rfl⟩
end
end TI
namespace Xci
open PySem PySem.Spec PyProof.Rows L2
/-- sorted(xs), xs a list of tuples of ints (k says which), of whatever lengths -/
def rSortedTI (K : PySem.W.Frag) : List V → Hp → VK → Prop := fun vs H Q => ∃ (a : Addr) (xs : List V) (k : V → List Int), vs = [V.ref a] ∧ SqL K H a xs ∧ (∀ x ∈ xs, ∃ t, x = V.ref t ∧ H t = some (.tup ((k x).map V.int))) ∧
  ∀ ys p, ys.Pairwise (fun x y => HT.lexLt (k y) (k x) = false) → ys.Perm xs → H p = none → Q (.ref p) (upd H p (.lst ys))
theorem cr_sortedTI {X : Cx} (room : X.A.units + 64 < cLine) : CallR X (.builtin "sorted") (rSortedTI X.K) := by
  intro pins s σ H vs us Q I r h
  obtain ⟨a, xs, k, rfl, hs, hx, q⟩ := h
  obtain ⟨its, rv, hl, hz⟩ := I.list hs
  rw [Vals.ref1 r]
  obtain ⟨e1, e2⟩ := refs_back rv fun x m => by
    obtain ⟨t, e, _⟩ := hx x m
    exact ⟨t, e⟩
  have told : ∀ v ∈ its, TS.TupInts s.heap v (k (backV v)) := fun v hv => by
    obtain ⟨t, rfl⟩ := e2 v hv
    obtain ⟨t', e, ht⟩ := hx (V.ref t) (by rw [e1]; exact List.mem_map.mpr ⟨_, hv, rfl⟩)
    cases e
    obtain ⟨_, is, ri, at_⟩ := I.hok _ _ ht
    exact ⟨t, is.toArray, rfl, at_, Vals.ints ri⟩
  refine SrtO.sorted_ord (NtL.swo_lexL fun v => k (backV v)) hl.isList (by rw [← rv.length]; exact hz) (fun h2 h₁ a' at_ kk => ?_) fun out h1 h2 => ?_
  · refine TI.tuples_sortable (s := { s with heap := h₁ }) (by have e : X.A.in1.in1.units = X.A.units + 1 + 1 := rfl; omega) h2 (fun v hv => (told v hv).keeps fun b o e _ => (kk b o e).2) fun o e => ?_
    have e' : some o = some (seqObj "list" its.toArray 0) := e.symm.trans at_
    cases e'
    exact fun c => absurd (Value.type.inj c) (by decide)
  · have refs : ∀ u ∈ out, ∃ a, u = Value.ref a := fun u hu => e2 u (h2.perm.mem_iff.mp hu)
    obtain ⟨n, hn⟩ := sortedAll_at s.heap its out.toArray
    have perm : (out.map backV).Perm xs := by rw [e1]; exact h2.perm.map backV
    refine ⟨.ref _, upd H (s.heap.objs.size + 1) (.lst (out.map backV)), I.laid (t' := s.toks) (fun _ _ => sortedAll_old) (Nat.le_succ _) ⟨by rw [perm.length_eq]; exact hz, out, n, vals_back refs, hn⟩, rfl, q _ _ (List.pairwise_map.mpr h1) perm (I.hok.fresh (Nat.le_succ _))⟩
end Xci

namespace Xci
open PySem L2
/-! ### a book in another order; weights twice, even weights; sorted lists -/
theorem made_book {C x dx : Addr} {H : Hp} {man : Str} {p : Addr} {wt : V} {ys : List V} {es : List Ent} {ws : List Int} {Q : VK} {E : XK} (nx : H x = Option.none) (ndx : H dx = Option.none) (hm : Man man) (hw : WtIs H man wt ws) (hp : H p = some (.tup ys)) (ents : Ents H ys es)
    (ok : ∀ e ∈ es, EntOk e) (len : es.length ≤ 40) (G : ∀ H', BookSt C H' x man ws es → Same H H' → Q .non H') : spBook C [.ref x, .str man, .ref p, wt] (upd (upd H dx (.own x)) x (.ins C dx [])) Q E := by
  have s3 : Same H (upd (upd H dx (.own x)) x (.ins C dx [])) := fun b o e => by rw [upd_ne (ne_of_none e nx), upd_ne (ne_of_none e ndx)]; exact e
  refine ⟨x, dx, man, p, wt, ys, es, rfl, upd_same, hm, (hw.keep (TFr.same s3)).ok, s3 _ _ hp, Ents.keep (TFr.same s3) ents, ok, len, fun H' hb kp => ?_⟩
  have s4 : Same H H' := fun b o e => kp b o (s3 b o e) (ne_of_none e nx)
  exact G H' ⟨⟨p, wt, ys, hb, s4 _ _ hp, Ents.keep (TFr.same s4) ents, hw.keep (TFr.same s4)⟩, ok, len⟩ s4
/-- esT holds the entries of es in the order ord -/
structure Picked (es : List Ent) (ord : List Nat) (esT : List Ent) : Prop where
  len : esT.length = ord.length
  at_ : ∀ (i j : Nat), ord[i]? = some j → esT[i]? = es[j]?
def gOf (ord : List Nat) (i : Nat) : Nat := ord.getD i 0
theorem gOf_at {ord : List Nat} {i j : Nat} (h : ord[i]? = some j) : gOf ord i = j := by
  unfold gOf
  rw [List.getD_eq_getElem?_getD, h]
  rfl
theorem Picked.snoc {es : List Ent} {ord : List Nat} {esT : List Ent} {i j : Nat} {e : Ent} (P : Picked es (ord.take i) esT) (hi : i ≤ ord.length) (h : ord[i]? = some j) (he : es[j]? = some e) : Picked es (ord.take (i + 1)) (esT ++ [e]) := by
  have hlt := (List.getElem?_eq_some_iff.mp h).1
  have el : esT.length = i := by rw [P.len, List.length_take]; omega
  have et : ord.take (i + 1) = ord.take i ++ [j] := by rw [List.take_add_one, h]; rfl
  refine ⟨by rw [List.length_append, el, List.length_take, List.length_singleton]; omega, fun k m hk => ?_⟩
  rw [et] at hk
  have tl : (ord.take i).length = i := by rw [List.length_take]; omega
  by_cases hki : k < i
  · rw [List.getElem?_append_left (by omega)] at hk
    rw [List.getElem?_append_left (by omega)]
    exact P.at_ k m hk
  · have hkl := (List.getElem?_eq_some_iff.mp hk).1
    rw [List.length_append, tl, List.length_singleton] at hkl
    have : k = i := by omega
    subst this
    rw [List.getElem?_append_right (by omega), tl, Nat.sub_self] at hk
    obtain rfl : j = m := Option.some.inj hk
    rw [List.getElem?_append_right (by omega), el, Nat.sub_self, he]
    rfl
theorem Picked.mk_ {es : List Ent} {ord : List Nat} {esT : List Ent} (P : Picked es ord esT) {i : Nat} (hi : i < ord.length) : mkA esT i = mkA es (gOf ord i) := by
  have h : ord[i]? = some ord[i] := List.getElem?_eq_getElem hi
  unfold mkA
  rw [gOf_at h, P.at_ i _ h]
theorem Picked.fit {es : List Ent} {ord : List Nat} {esT : List Ent} (P : Picked es ord esT) {i : Nat} (ms : List Int) (hi : i < ord.length) : fitP esT ms i = fitP es ms (gOf ord i) := by
  have h : ord[i]? = some ord[i] := List.getElem?_eq_getElem hi
  unfold fitP
  rw [gOf_at h, P.at_ i _ h]
theorem gOf_map (ord : List Nat) : (List.range ord.length).map (gOf ord) = ord := by
  refine List.ext_getElem? fun i => ?_
  rw [List.getElem?_map]
  by_cases hi : i < ord.length
  · rw [List.getElem?_eq_getElem (by rw [List.length_range]; exact hi), List.getElem_range, List.getElem?_eq_getElem hi]
    show some (gOf ord i) = _
    rw [gOf_at (List.getElem?_eq_getElem hi)]
  · rw [List.getElem?_eq_none (by rw [List.length_range]; omega), List.getElem?_eq_none (by omega)]
    rfl
theorem Picked.perm {es : List Ent} {ord : List Nat} {esT : List Ent} (P : Picked es ord esT) (hp : ord.Perm (List.range es.length)) (ms : List Int) : ((fitN esT ms).map (gOf ord)).Perm (fitN es ms) := by
  have e1 : fitN esT ms = (List.range ord.length).filter (fun i => fitP es ms (gOf ord i)) := by
    unfold fitN
    rw [P.len]
    exact List.filter_congr fun i hi => P.fit ms (List.mem_range.mp hi)
  have e2 : ((List.range ord.length).filter (fun i => fitP es ms (gOf ord i))).map (gOf ord) = ((List.range ord.length).map (gOf ord)).filter (fitP es ms) := by
    rw [List.filter_map]
    rfl
  rw [e1, e2, gOf_map]
  exact hp.filter _
theorem Picked.turned {es : List Ent} {ord : List Nat} {esT : List Ent} (P : Picked es ord esT) (hp : ord.Perm (List.range es.length)) (man : Str) (ws ms : List Int) :
    Turned (gOf ord) (lawRes (fitN esT ms) (beatA man ws esT)) (lawRes (fitN es ms) (beatA man ws es)) := by
  refine lawRes_turned (beatA_ok _ _ _) (beatA_ok _ _ _) (fit_nd es ms) (P.perm hp ms) fun i hi o ho => ?_
  have h1 : i < ord.length := by rw [← P.len]; exact fit_lt i hi
  have h2 : o < ord.length := by rw [← P.len]; exact fit_lt o ho
  unfold beatA
  rw [P.mk_ h1, P.mk_ h2]
theorem Picked.ok {es : List Ent} {ord : List Nat} {esT : List Ent} (P : Picked es ord esT) (h : ∀ e ∈ es, EntOk e) : ∀ e ∈ esT, EntOk e := by
  intro e he
  obtain ⟨i, hi⟩ := List.getElem?_of_mem he
  have hl := (List.getElem?_eq_some_iff.mp hi).1
  rw [P.len] at hl
  have := P.at_ i _ (List.getElem?_eq_getElem hl)
  rw [hi] at this
  exact h e (List.mem_of_getElem? this.symm)
theorem lawRes_asc {js : List Nat} {beat : Nat → Nat → Bool} (h : js.Pairwise (· < ·)) {l : List Nat} (e : lawRes js beat = .qua l) : l.Pairwise (· < ·) ∧ l.length ≤ js.length := by
  unfold lawRes at e
  split at e
  · cases e
  · split at e
    · cases e
    · obtain rfl := Res.qua.inj e
      exact ⟨h.sublist List.filter_sublist, List.length_filter_le _ _⟩
theorem fit_asc (es : List Ent) (ms : List Int) : (fitN es ms).Pairwise (· < ·) := List.pairwise_lt_range.sublist List.filter_sublist
/-- two ascending lists of the same items are one -/
theorem sorted_one : ∀ {xs ys : List Int}, xs.Perm ys → xs.Pairwise (· ≤ ·) → ys.Pairwise (· ≤ ·) → xs = ys
  | [], ys, p, _, _ => (List.nil_perm.mp p).symm
  | x :: r, [], p, _, _ => by have := p.length_eq; simp at this
  | x :: r, y :: t, p, hx, hy => by
    obtain ⟨a1, a2⟩ := List.pairwise_cons.mp hx
    obtain ⟨b1, b2⟩ := List.pairwise_cons.mp hy
    have e : x = y := by
      have m1 : x ∈ y :: t := p.subset (by simp)
      have m2 : y ∈ x :: r := p.symm.subset (by simp)
      rcases List.mem_cons.mp m1 with q1 | q1
      · exact q1
      · rcases List.mem_cons.mp m2 with q2 | q2
        · exact q2.symm
        · have := b1 x q1
          have := a1 y q2
          omega
    subst e
    rw [sorted_one (List.perm_cons x |>.mp p) a2 b2]
theorem nat2_asc {l : List Nat} (h : l.Pairwise (· < ·)) : (nat2 l).Pairwise (· ≤ ·) := by
  unfold nat2
  rw [List.pairwise_map]
  exact h.imp fun q => by omega
theorem nat2_perm {l k : List Nat} (h : l.Perm k) : (nat2 l).Perm (nat2 k) := h.map _
theorem dp_list {K : PySem.W.Frag} {H : Hp} {p : Addr} {ns : List Int} (h : H p = some (.lst (ns.map V.int))) : Dp K H (.ref p) (.list (ns.map PyData.int)) := by
  have q := dp_all (K := K) (H := H) (flat0_ints ns)
  rw [toD_ints] at q
  exact .lst (SqL.of h) q
/-! weights -/
theorem getD_twice {ws : List Int} {i : Nat} : (ws.map (2 * ·)).getD i 0 = 2 * ws.getD i 0 := by
  rw [List.getD_eq_getElem?_getD, List.getD_eq_getElem?_getD, List.getElem?_map]
  cases ws[i]? <;> simp
theorem sum_twice (ws ms : List Int) : (ms.map fun m => (ws.map (2 * ·)).getD m.toNat 0).sum = 2 * (ms.map fun m => ws.getD m.toNat 0).sum := by
  induction ms with
  | nil => rfl
  | cons m r ih =>
    rw [List.map_cons, List.map_cons, List.sum_cons, List.sum_cons, ih, getD_twice]
    omega
theorem beat_twice (ws ms ns : List Int) : beatM "weights" (ws.map (2 * ·)) ms ns = beatM "weights" ws ms ns := by
  unfold beatM rk
  rw [if_neg n_wi, if_pos rfl, if_pos rfl, if_neg n_wi, if_pos rfl, if_pos rfl, sum_twice, sum_twice, Bool.eq_iff_iff, decide_eq_true_iff, decide_eq_true_iff]
  omega
theorem getD_even {c : Int} {i : Nat} (h : i < 6) : (List.replicate 6 c).getD i 0 = c := by
  rw [List.getD_eq_getElem?_getD, List.getElem?_replicate, if_pos h]
  rfl
theorem sum_even {c : Int} {ms : List Int} (h : MarksOk 6 ms) : (ms.map fun m => (List.replicate 6 c).getD m.toNat 0).sum = c * ms.length := by
  have : ∀ ms : List Int, (∀ m ∈ ms, 0 ≤ m ∧ m < 6) → (ms.map fun m => (List.replicate 6 c).getD m.toNat 0).sum = c * ms.length := by
    intro ms
    induction ms with
    | nil => intro _; simp
    | cons m r ih =>
      intro hb
      have b := hb m (by simp)
      rw [List.map_cons, List.sum_cons, ih fun k hk => hb k (List.mem_cons_of_mem _ hk), getD_even (by omega), List.length_cons]
      have : c * ((r.length + 1 : Nat) : Int) = c * (r.length : Int) + c := by
        rw [Int.natCast_add, Int.mul_add]
        simp
      rw [this]
      omega
  exact this ms fun m hm => ⟨h.lo m hm, h.hi m hm⟩
theorem beat_even {c : Int} {ms ns ws : List Int} (hc : 1 ≤ c) (hm : MarksOk 6 ms) (hn : MarksOk 6 ns) : beatM "weights" (List.replicate 6 c) ms ns = beatM "most" ws ms ns := by
  unfold beatM rk
  rw [if_neg n_wi, if_pos rfl, if_pos rfl, if_neg n_mosti, if_neg n_mostw, if_neg n_mostw, sum_even hm, sum_even hn, Bool.eq_iff_iff, decide_eq_true_iff, decide_eq_true_iff]
  constructor
  · intro h
    exact Int.lt_of_mul_lt_mul_left h (by omega)
  · intro h
    exact Int.mul_lt_mul_of_pos_left h (by omega)
theorem mkA_ok {es : List Ent} (h : ∀ e ∈ es, EntOk e) (j : Nat) : MarksOk 6 (mkA es j) := by
  unfold mkA
  cases e : es[j]? with
  | none => exact ⟨.nil, by simp, by simp⟩
  | some x => exact (h x (List.mem_of_getElem? e)).ms
/-! max of a tuple of ints -/
end Xci
namespace Xci
open PySem PySem.Spec PyProof.Rows L2
theorem max_tup {prog : Program} {w : World} {A : Around} {E : Value → Shared → Prop} {s : Shared} {l : Addr} {its : List Value} {ns : List Int} {Q : Value → Shared → Prop} (hh : A.handled = none) (ht : s.heap.IsTuple l its.toArray) (hi : IntsAre its ns) (hne : 0 < ns.length)
    (h : ∀ h' tk M t', (∀ b o, s.heap.get? b = some o → h'.get? b = some o) → M ∈ ns → (∀ a, a ∈ ns → a ≤ M) → Q (.int M t') { s with heap := h', toks := tk }) : wpAny (model prog w) A (call (.builtin "max") [.ref l]) Q E s := by
  obtain ⟨xs, e⟩ := hi.allInts.items
  have hn : numsOf (intItems xs).toList = ns := e ▸ hi.numsOf
  rw [nums_intItems] at hn
  subst hn
  rw [e] at ht
  have pos : 0 < xs.size := by simpa using hne
  have below : l < s.heap.objs.size := by obtain ⟨_, q, _⟩ := id ht; exact Heap.lt_size q
  refine PySem.call_max_walk (wpAny_pyIter_tuple ht ?_)
  refine ⟨_, _, _, _, _, _, _, rfl, Walks.tuple (A := A.in1) hh s.heap.objs.size l (Nat.ne_of_lt below) (intItems xs), ⟨⟨_, Heap.get?_push_size _ rfl, rfl, rfl⟩, ht.at fun o q => Heap.get?_push_of_some _ q⟩, fun b hb => ?_, by simpa [intItems] using pos,
    CmpOf.ints_gt (numAt xs) (fun _ _ => intItems_at), fun v h' tk hv hk => ?_⟩
  · show b < (s.heap.push _).objs.size
    rw [Heap.size_push]
    have hb' : b = s.heap.objs.size ∨ b = l := by simpa using hb
    rcases hb' with q | q <;> rw [q]
    · exact Nat.lt_succ_self _
    · exact Nat.lt_succ_of_lt below
  have hv' : (intItems xs)[argBest (fun i j => decide (numAt xs i > numAt xs j)) (xs.size - 1)]? = some v := by simpa [intItems] using hv
  obtain ⟨t, rfl⟩ := intItems_at hv'
  obtain ⟨b1, b2⟩ := argBest_gt (numAt xs) (xs.size - 1)
  refine h h' tk _ t (fun b o q => ?_) ?_ fun a ha => ?_
  · refine hk b o (fun hm => ?_) (Heap.get?_push_of_some _ q)
    have hb' : b = s.heap.objs.size := by simpa using hm
    exact absurd (Heap.lt_size q) (by rw [hb']; exact Nat.lt_irrefl _)
  · rw [numAt_eq]
    exact PySem.getD_mem (by rw [List.length_map, Array.length_toList]; omega)
  · obtain ⟨j, hj, rfl⟩ := mem_getD ha
    rw [List.length_map, Array.length_toList] at hj
    rw [← numAt_eq]
    exact b2 j (by omega)
def rMaxT (K : PySem.W.Frag) : List V → Hp → VK → Prop := fun vs H Q => ∃ (a : Addr) (ns : List Int), vs = [V.ref a] ∧ SqT K H a (ns.map V.int) ∧ 0 < ns.length ∧ ∀ m, m ∈ ns → (∀ y, y ∈ ns → y ≤ m) → Q (.int m) H
theorem cr_maxT {X : Cx} (hc : X.calm = true) : CallR X (.builtin "max") (rMaxT X.K) := by
  intro pins s σ H vs us Q I r h
  obtain ⟨a, ns, rfl, hs, hne, q⟩ := h
  obtain ⟨its, rv, hl, _⟩ := I.tuple hs
  rw [Vals.ref1 r]
  exact max_tup (I.ok.hd hc) hl rv.ints hne fun h' tk m t' hk h1 h2 => ⟨.int m, H, I.kept hk, ⟨_, rfl⟩, q m h1 h2⟩
end Xci

namespace Xci
open PySem L2
/-! ### holding: quarrels are of two at least; a book with an entry of just these marks ahead -/
theorem inside_mem {ms ns : List Int} (h : inside ms ns = true) : ∀ m ∈ ms, m ∈ ns := fun m hm => of_decide_eq_true (List.all_eq_true.mp h m hm)
theorem inside_of {ms ns : List Int} (h : ∀ m ∈ ms, m ∈ ns) : inside ms ns = true := List.all_eq_true.mpr fun m hm => decide_eq_true (h m hm)
theorem within_eq (ws : List Int) (ms ns : List Int) : beatM "within" ws ms ns = (inside ns ms && decide (ns.length < ms.length)) := if_pos rfl
theorem within_trans {ws : List Int} {es : List Ent} {a b c : Nat} (h1 : beatA "within" ws es a b = true) (h2 : beatA "within" ws es b c = true) : beatA "within" ws es a c = true := by
  unfold beatA at h1 h2 ⊢
  rw [within_eq, Bool.and_eq_true, decide_eq_true_iff] at h1 h2 ⊢
  exact ⟨inside_of fun m hm => inside_mem h1.1 m (inside_mem h2.1 m hm), by omega⟩
theorem within_len {ws : List Int} {es : List Ent} {a b : Nat} (h : beatA "within" ws es a b = true) : (mkA es b).length < (mkA es a).length := by
  unfold beatA at h
  rw [within_eq, Bool.and_eq_true, decide_eq_true_iff] at h
  exact h.2
theorem some_max {ws : List Int} {es : List Ent} {js : List Nat} (hb : ∀ j ∈ js, (mkA es j).length ≤ 6) : ∀ (n j : Nat), j ∈ js → 6 - (mkA es j).length ≤ n → ∃ m ∈ js.filter (maxB js (beatA "within" ws es)), m = j ∨ beatA "within" ws es m j = true := by
  intro n
  induction n with
  | zero =>
    intro j hj hn
    refine ⟨j, List.mem_filter.mpr ⟨hj, ?_⟩, .inl rfl⟩
    unfold maxB
    rw [Bool.not_eq_true', List.any_eq_false]
    intro o ho q
    have := within_len q
    have := hb o ho
    omega
  | succ n ih =>
    intro j hj hn
    by_cases q : maxB js (beatA "within" ws es) j = true
    · exact ⟨j, List.mem_filter.mpr ⟨hj, q⟩, .inl rfl⟩
    · unfold maxB at q
      rw [Bool.not_eq_true', List.any_eq_false] at q
      have : ∃ o ∈ js, beatA "within" ws es o j = true := by
        by_cases e : ∃ o ∈ js, beatA "within" ws es o j = true
        · exact e
        · exact absurd (fun o ho z => e ⟨o, ho, z⟩) q
      obtain ⟨o, ho, z⟩ := this
      have hl := within_len z
      obtain ⟨m, hm, hmo⟩ := ih o ho (by omega)
      refine ⟨m, hm, .inr ?_⟩
      rcases hmo with e | e
      · rw [e]; exact z
      · exact within_trans e z
theorem qua_two {ws : List Int} {es : List Ent} {js : List Nat} (hn : js.Nodup) (hb : ∀ j ∈ js, (mkA es j).length ≤ 6) {l : List Nat} (e : lawRes js (beatA "within" ws es) = .qua l) : 2 ≤ l.length := by
  rcases lawRes_cases (beatA_ok "within" ws es) hn with ⟨_, r⟩ | ⟨n, _, r⟩ | ⟨hne, hw, r⟩
  · rw [r] at e; cases e
  · rw [r] at e; cases e
  · rw [r] at e
    obtain rfl := Res.qua.inj e
    obtain ⟨j, hj⟩ : ∃ j, j ∈ js := by
      cases js with
      | nil => exact absurd rfl hne
      | cons j r => exact ⟨j, by simp⟩
    have sm := fun o ho => some_max (ws := ws) hb 6 o ho (by omega)
    match hl : js.filter (maxB js (beatA "within" ws es)) with
    | [] =>
      obtain ⟨m, hm, _⟩ := sm j hj
      rw [hl] at hm
      cases hm
    | [m] =>
      refine absurd ⟨?_, fun o ho hne => ?_⟩ (hw m)
      · have : m ∈ js.filter (maxB js (beatA "within" ws es)) := by rw [hl]; simp
        exact (List.mem_filter.mp this).1
      · obtain ⟨k, hk, z⟩ := sm o ho
        rw [hl] at hk
        have : k = m := List.mem_singleton.mp hk
        subst this
        rcases z with z | z
        · exact absurd z.symm hne
        · exact z
    | x :: y :: r => simp
theorem asc_sub_len : ∀ {b a : List Int}, b.Pairwise (· < ·) → a.Pairwise (· < ·) → (∀ x ∈ a, x ∈ b) → a.length ≤ b.length
  | [], [], _, _, _ => Nat.le_refl _
  | [], x :: r, _, _, h => absurd (h x (by simp)) (by simp)
  | y :: t, [], _, _, _ => Nat.zero_le _
  | y :: t, x :: r, hb, ha, h => by
    obtain ⟨b1, b2⟩ := List.pairwise_cons.mp hb
    obtain ⟨a1, a2⟩ := List.pairwise_cons.mp ha
    by_cases e : x = y
    · subst e
      have := asc_sub_len (b := t) (a := r) b2 a2 fun k hk => by
        rcases List.mem_cons.mp (h k (List.mem_cons_of_mem _ hk)) with q | q
        · have := a1 k hk; omega
        · exact q
      simp only [List.length_cons]
      omega
    · have hx : x ∈ t := by
        rcases List.mem_cons.mp (h x (by simp)) with q | q
        · exact absurd q e
        · exact q
      have := b1 x hx
      have := asc_sub_len (b := t) (a := x :: r) b2 ha fun k hk => by
        rcases List.mem_cons.mp (h k hk) with q | q
        · rcases List.mem_cons.mp hk with q2 | q2
          · omega
          · have := a1 k q2; omega
        · exact q
      simp only [List.length_cons] at this ⊢
      omega
theorem asc_sub_eq : ∀ {b a : List Int}, b.Pairwise (· < ·) → a.Pairwise (· < ·) → (∀ x ∈ a, x ∈ b) → a.length = b.length → a = b
  | [], [], _, _, _, _ => rfl
  | [], x :: r, _, _, h, _ => absurd (h x (by simp)) (by simp)
  | y :: t, [], _, _, _, e => by simp at e
  | y :: t, x :: r, hb, ha, h, el => by
    obtain ⟨b1, b2⟩ := List.pairwise_cons.mp hb
    obtain ⟨a1, a2⟩ := List.pairwise_cons.mp ha
    by_cases e : x = y
    · subst e
      rw [asc_sub_eq (b := t) (a := r) b2 a2 (fun k hk => by
        rcases List.mem_cons.mp (h k (List.mem_cons_of_mem _ hk)) with q | q
        · have := a1 k hk; omega
        · exact q) (by simpa using el)]
    · have hx : x ∈ t := by
        rcases List.mem_cons.mp (h x (by simp)) with q | q
        · exact absurd q e
        · exact q
      have := b1 x hx
      have := asc_sub_len (b := t) (a := x :: r) b2 ha fun k hk => by
        rcases List.mem_cons.mp (h k hk) with q | q
        · rcases List.mem_cons.mp hk with q2 | q2
          · omega
          · have := a1 k q2; omega
        · exact q
      simp only [List.length_cons] at this el
      omega
theorem inside_len {ms ns : List Int} (h : inside ms ns = true) (hm : MarksOk 6 ms) (hn : MarksOk 6 ns) : ms.length ≤ ns.length := asc_sub_len hn.up hm.up (inside_mem h)
theorem inside_eq {ms ns : List Int} (h : inside ms ns = true) (hm : MarksOk 6 ms) (hn : MarksOk 6 ns) (e : ms.length = ns.length) : ms = ns := asc_sub_eq hn.up hm.up (inside_mem h) e
theorem inside_refl (ms : List Int) : inside ms ms = true := inside_of fun _ h => h
/-- the entries with just these marks -/
def sameN (es : List Ent) (ms : List Int) : List Nat := (List.range es.length).filter fun n => decide (mkA es n = ms)
theorem mkA_cons (e : Ent) (es : List Ent) (n : Nat) : mkA (e :: es) (n + 1) = mkA es n := rfl
theorem mkA_zero (e : Ent) (es : List Ent) : mkA (e :: es) 0 = e.1 := rfl
theorem fit_mk {es : List Ent} {ms : List Int} {n : Nat} (h : n ∈ fitN es ms) : inside (mkA es n) ms = true := by
  obtain ⟨a, b⟩ := List.mem_filter.mp h
  have hn := List.mem_range.mp a
  unfold fitP at b
  unfold mkA
  rw [List.getElem?_eq_getElem hn] at b ⊢
  exact b
theorem whole_res {es : List Ent} {ms : List Int} {z : Str} (eok : ∀ e ∈ es, EntOk e) (mok : MarksOk 6 ms) :
    lawRes (fitN ((ms, z) :: es) ms) (beatA "within" [] ((ms, z) :: es)) = if sameN es ms = [] then .ent 0 else .qua (0 :: (sameN es ms).map (· + 1)) := by
  have ef : fitN ((ms, z) :: es) ms = 0 :: (fitN es ms).map (· + 1) := by
    rw [fit_cons, if_pos (inside_refl ms)]
    rfl
  have nd := fit_nd ((ms, z) :: es) ms
  have b0 : ∀ n ∈ fitN es ms, beatA "within" [] ((ms, z) :: es) 0 (n + 1) = !decide (mkA es n = ms) := fun n hn => by
    unfold beatA
    rw [within_eq, mkA_cons, mkA_zero, fit_mk hn, Bool.true_and]
    have l := inside_len (fit_mk hn) (mkA_ok eok n) mok
    by_cases e : mkA es n = ms
    · rw [e]
      simp
    · have : ¬ (mkA es n).length = ms.length := fun q => e (inside_eq (fit_mk hn) (mkA_ok eok n) mok q)
      have : (mkA es n).length < ms.length := by omega
      simp [e, this]
  have bn : ∀ n ∈ fitN es ms, ∀ k, (mkA ((ms, z) :: es) k).length = ms.length → beatA "within" [] ((ms, z) :: es) (n + 1) k = false := fun n hn k hk => by
    unfold beatA
    rw [within_eq, mkA_cons]
    have l := inside_len (fit_mk hn) (mkA_ok eok n) mok
    have : decide ((mkA ((ms, z) :: es) k).length < (mkA es n).length) = false := decide_eq_false (by omega)
    rw [this, Bool.and_false]
  have esame : sameN es ms = (fitN es ms).filter fun n => decide (mkA es n = ms) := by
    unfold sameN fitN
    rw [List.filter_filter]
    refine List.filter_congr fun n hn => ?_
    by_cases e : mkA es n = ms
    · have hl := List.mem_range.mp hn
      have : fitP es ms n = true := by
        unfold fitP
        unfold mkA at e
        rw [List.getElem?_eq_getElem hl] at e ⊢
        have e : es[n].1 = ms := e
        show inside es[n].1 ms = true
        rw [e]
        exact inside_refl ms
      simp [e, this]
    · simp [e]
  by_cases hs : sameN es ms = []
  · rw [if_pos hs]
    refine lawRes_ent (beatA_ok _ _ _) nd ⟨by rw [ef]; simp, fun o ho hne => ?_⟩
    rw [ef] at ho
    rcases List.mem_cons.mp ho with q | q
    · exact absurd q hne
    · obtain ⟨n, hn, rfl⟩ := List.mem_map.mp q
      rw [b0 n hn]
      have : ¬ mkA es n = ms := fun e => by
        have : n ∈ sameN es ms := by
          rw [esame]
          exact List.mem_filter.mpr ⟨hn, decide_eq_true e⟩
        rw [hs] at this
        cases this
      simp [this]
  · rw [if_neg hs]
    have self : ∀ k, (mkA ((ms, z) :: es) k).length = ms.length → beatA "within" [] ((ms, z) :: es) 0 k = false := fun k hk => by
      unfold beatA
      rw [within_eq, mkA_zero]
      have : decide ((mkA ((ms, z) :: es) k).length < ms.length) = false := decide_eq_false (by omega)
      rw [this, Bool.and_false]
    obtain ⟨s, hs1⟩ : ∃ s, s ∈ sameN es ms := by
      cases h : sameN es ms with
      | nil => exact absurd h hs
      | cons a b => exact ⟨a, by simp⟩
    have hs2 := hs1
    rw [esame] at hs2
    obtain ⟨s1, s2⟩ := List.mem_filter.mp hs2
    have s2 := of_decide_eq_true s2
    rw [lawRes_qua (beatA_ok _ _ _) nd (by rw [ef]; simp) fun n hw => ?_]
    · congr 1
      rw [ef, List.filter_cons]
      have m0 : maxB (0 :: (fitN es ms).map (· + 1)) (beatA "within" [] ((ms, z) :: es)) 0 = true := by
        unfold maxB
        rw [Bool.not_eq_true', List.any_eq_false]
        intro o ho
        rcases List.mem_cons.mp ho with q | q
        · subst q
          rw [self 0 rfl]
          exact Bool.false_ne_true
        · obtain ⟨n, hn, rfl⟩ := List.mem_map.mp q
          rw [bn n hn 0 rfl]
          exact Bool.false_ne_true
      rw [if_pos m0]
      congr 1
      rw [List.filter_map, esame]
      congr 1
      refine List.filter_congr fun n hn => ?_
      show maxB _ _ (n + 1) = _
      unfold maxB
      by_cases e : mkA es n = ms
      · rw [decide_eq_true e, Bool.not_eq_true', List.any_eq_false]
        intro o ho
        have hk : (mkA ((ms, z) :: es) (n + 1)).length = ms.length := by rw [mkA_cons, e]
        rcases List.mem_cons.mp ho with q | q
        · subst q
          rw [self _ hk]
          exact Bool.false_ne_true
        · obtain ⟨k, hk2, rfl⟩ := List.mem_map.mp q
          rw [bn k hk2 _ hk]
          exact Bool.false_ne_true
      · rw [decide_eq_false e, Bool.not_eq_false', List.any_eq_true]
        exact ⟨0, by simp, by rw [b0 n hn]; simp [e]⟩
    · have hn0 := hw.1
      rw [ef] at hn0
      rcases List.mem_cons.mp hn0 with q | q
      · subst q
        have := hw.2 (s + 1) (by rw [ef]; exact List.mem_cons_of_mem _ (List.mem_map_of_mem s1)) (by omega)
        rw [self _ (by rw [mkA_cons, s2])] at this
        cases this
      · obtain ⟨k, hk, rfl⟩ := List.mem_map.mp q
        have := hw.2 0 (by rw [ef]; simp) (by omega)
        rw [bn k hk 0 rfl] at this
        cases this
theorem eqvAll_ints : ∀ (a b : List Int), PyData.eqvAll (a.map PyData.int) (b.map PyData.int) = decide (a = b)
  | [], [] => rfl
  | [], y :: t => by simp [PyData.eqvAll]
  | x :: r, [] => by simp [PyData.eqvAll]
  | x :: r, y :: t => by
    have ih := eqvAll_ints r t
    rw [List.map_cons, List.map_cons]
    simp only [PyData.eqvAll, PyData.eqv]
    rw [ih, Bool.eq_iff_iff]
    simp
theorem dp_marks {K : PySem.W.Frag} {H : Hp} {v : V} {ms : List Int} (h : Xci.Mk H v ms) : Dp K H v (.tuple (ms.map PyData.int)) := by
  have q := dp_tup (K := K) h (flat0_ints ms)
  rw [toD_ints] at q
  exact q
theorem sh_marks (ns : List Int) : SeqAt.shaped (.tuple (ns.map PyData.int)) = true := by
  obtain ⟨a, b⟩ := lay_ints ns
  simp [SeqAt.shaped, PyData.canLay0, PyData.depth, a, b]
end Xci

namespace Xci
open PySem L2
/-! ### sorted tuples of ints; the cells of one form -/
def leC (c d : List Int) : Prop := HT.lexLt d c = false
theorem lex_eq : ∀ xs ys : List Int, HT.lexLt xs ys = false → HT.lexLt ys xs = false → xs = ys
  | [], [], _, _ => rfl
  | [], y :: ys, h, _ => by rw [HT.lexLt_nil_cons] at h; cases h
  | x :: xs, [], _, h => by rw [HT.lexLt_nil_cons] at h; cases h
  | x :: xs, y :: ys, h, k => by
    rw [HT.lexLt_cons] at h k
    by_cases e : x = y
    · subst e
      rw [if_pos rfl] at h k
      rw [lex_eq xs ys h k]
    · rw [if_neg e] at h
      rw [if_neg (fun q => e q.symm)] at k
      have a := of_decide_eq_false h
      have b := of_decide_eq_false k
      omega
theorem sortedU {cs ds : List (List Int)} (h : cs.Pairwise leC) (k : ds.Pairwise leC) (p : cs.Perm ds) : cs = ds :=
  List.Perm.eq_of_pairwise (le := leC) (fun a b _ _ x y => lex_eq a b y x) h k p
def unInt : V → Int
  | .int i => i
  | _ => 0
theorem unInts (ns : List Int) : (ns.map V.int).map unInt = ns := by
  rw [List.map_map]
  exact (List.map_congr_left fun _ _ => rfl).trans (List.map_id ns)
/-- the ints of the tuple at x -/
def kOf (H : Hp) : V → List Int
  | .ref t => match H t with
    | some (.tup vs) => vs.map unInt
    | _ => []
  | _ => []
theorem kOf_mk {H : Hp} {x : V} {c : List Int} (m : Xci.Mk H x c) : kOf H x = c := by
  obtain ⟨t, rfl, h⟩ := m
  show (match H t with
    | some (.tup vs) => vs.map unInt
    | _ => []) = c
  rw [h]
  exact unInts c
theorem mks_kOf {H : Hp} : ∀ {xs : List V} {cs : List (List Int)}, Mks H xs cs → xs.map (kOf H) = cs
  | _, _, .nil => rfl
  | _, _, .cons m r => by rw [List.map_cons, kOf_mk m, mks_kOf r]
/-- sorted(xs) of tuples with the contents cs -/
theorem sorted_rows {K : PySem.W.Frag} {H : Hp} {Q : VK} {a : Addr} {xs : List V} {cs : List (List Int)} (hs : SqL K H a xs) (m : Mks H xs cs)
    (G : ∀ (ys : List V) (ds : List (List Int)) (p : Addr), Mks H ys ds → ds.Pairwise leC → ds.Perm cs → H p = none → Q (.ref p) (upd H p (.lst ys))) : rSortedTI K [.ref a] H Q := by
  refine ⟨a, xs, kOf H, rfl, hs, fun x hx => ?_, fun ys p up perm free => ?_⟩
  · obtain ⟨i, hi⟩ := List.getElem?_of_mem hx
    obtain ⟨c, _, t, e, h⟩ := Paired.get m hi
    refine ⟨t, e, ?_⟩
    rw [kOf_mk ⟨t, e, h⟩]
    exact h
  · obtain ⟨ds, md, pd⟩ := Paired.perm perm m
    refine G ys ds p md ?_ pd free
    rw [← mks_kOf md, List.pairwise_map]
    exact up
theorem lay_rows : ∀ (cs : List (List Int)), PyData.canLayAll0 (cs.map fun c => PyData.tuple (c.map PyData.int)) = true ∧ PyData.depthAll (cs.map fun c => PyData.tuple (c.map PyData.int)) ≤ 1
  | [] => ⟨rfl, Nat.zero_le _⟩
  | c :: cs => by
    obtain ⟨a, b⟩ := lay_rows cs
    obtain ⟨d, e⟩ := lay_ints c
    rw [List.map_cons]
    refine ⟨by simp [PyData.canLayAll0, PyData.canLay0, a, d], ?_⟩
    rw [PyData.depthAll]
    refine Nat.max_le.mpr ⟨?_, b⟩
    simp [PyData.depth, e]
theorem sh_rows (cs : List (List Int)) : SeqAt.shaped (.list (cs.map fun c => PyData.tuple (c.map PyData.int))) = true := by
  obtain ⟨a, b⟩ := lay_rows cs
  have d : PyData.depth (.list (cs.map fun c => PyData.tuple (c.map PyData.int))) ≤ 64 := by
    simp only [PyData.depth]
    omega
  unfold SeqAt.shaped
  rw [decide_eq_true d, Bool.and_true]
  simpa [PyData.canLay0] using a
theorem dp_rows {K : PySem.W.Frag} {H : Hp} : ∀ {ys : List V} {cs : List (List Int)}, Mks H ys cs → DpAll K H ys (cs.map fun c => PyData.tuple (c.map PyData.int))
  | _, _, .nil => .nil
  | _, _, .cons m r => .cons (dp_marks m) (dp_rows r)
/-- u != v of two lists of the same tuples of ints: no -/
theorem ne_rows {K : PySem.W.Frag} {H : Hp} {a b : Addr} {xs ys : List V} {cs : List (List Int)} {Q : V → Hp → Prop} (ha : H a = some (.lst xs)) (hb : H b = some (.lst ys)) (ma : Mks H xs cs) (mb : Mks H ys cs) (q : Q (.bl false) H) : rNeD K (.ref a) (.ref b) H Q := by
  refine ⟨_, _, .lst (SqL.of ha) (dp_rows ma), .lst (SqL.of hb) (dp_rows mb), sh_rows cs, sh_rows cs, ?_⟩
  rw [eqv_same (sh_rows cs)]
  exact q
/-- the cells of each form, told in order -/
structure Sm (fs : List (Option Str)) (cs : List (List Int)) : Prop where
  up : cs.Pairwise leC
  of : ∃ zs : List Str, zs.Nodup ∧ (∀ z, z ∈ zs ↔ some z ∈ fs) ∧ cs.Perm (zs.map fun z => nat2 (spots fs z))
theorem Sm.one {fs : List (Option Str)} {cs ds : List (List Int)} (h : Sm fs cs) (k : Sm fs ds) : cs = ds := by
  obtain ⟨zs, n, a, p⟩ := h.of
  obtain ⟨ys, m, b, q⟩ := k.of
  have e : zs.Perm ys := (List.perm_ext_iff_of_nodup n m).mpr fun z => (a z).trans (b z).symm
  exact sortedU h.up k.up (p.trans ((e.map _).trans q.symm))
theorem Sm.few {fs : List (Option Str)} {cs : List (List Int)} (h : Sm fs cs) : cs.length ≤ fs.length := by
  obtain ⟨zs, n, a, p⟩ := h.of
  rw [p.length_eq, List.length_map]
  have q : (zs.map some).length ≤ fs.length := List.Nodup.length_le_of_subset (by
    unfold List.Nodup
    rw [List.pairwise_map]
    exact n.imp fun h e => h (Option.some.inj e)) fun x hx => by
      obtain ⟨z, hz, rfl⟩ := List.mem_map.mp hx
      exact (a z).mp hz
  rwa [List.length_map] at q
theorem Sm.each {fs : List (Option Str)} {cs : List (List Int)} (h : Sm fs cs) {c : List Int} (m : c ∈ cs) : ∃ z, some z ∈ fs ∧ c = nat2 (spots fs z) := by
  obtain ⟨zs, n, a, p⟩ := h.of
  obtain ⟨z, hz, e⟩ := List.mem_map.mp (p.subset m)
  exact ⟨z, (a z).mp hz, e.symm⟩
/-- under other names -/
theorem Sm.ren {fs : List (Option Str)} {cs : List (List Int)} (h : Sm fs cs) (ren : Str → Str) (inj : ∀ x y, some x ∈ fs → some y ∈ fs → ren x = ren y → x = y) : Sm (fs.map (Option.map ren)) cs := by
  obtain ⟨zs, n, a, p⟩ := h.of
  have sp : ∀ z, some z ∈ fs → spots (fs.map (Option.map ren)) (ren z) = spots fs z := fun z hz => by
    unfold spots
    rw [List.length_map]
    refine List.filter_congr fun i hi => ?_
    rw [decide_eq_decide, List.getElem?_map]
    cases e : fs[i]? with
    | none => simp
    | some f =>
      cases f with
      | none => simp
      | some y =>
        have my : some y ∈ fs := List.mem_of_getElem? e
        constructor
        · intro q
          have q' : ren y = ren z := Option.some.inj (Option.some.inj q)
          rw [inj y z my hz q']
        · intro q
          have q' : y = z := Option.some.inj (Option.some.inj q)
          rw [q'] <;> rfl
  refine ⟨h.up, zs.map ren, ?_, fun z => ?_, ?_⟩
  · unfold List.Nodup
    rw [List.pairwise_map]
    refine List.Pairwise.imp_of_mem (fun {x y} hx hy ne e => ne (inj x y ((a x).mp hx) ((a y).mp hy) e)) n
  · rw [List.mem_map, List.mem_map]
    constructor
    · rintro ⟨y, hy, rfl⟩
      exact ⟨some y, (a y).mp hy, rfl⟩
    · rintro ⟨f, hf, e⟩
      cases f with
      | none => cases e
      | some y => exact ⟨y, (a y).mpr hf, Option.some.inj e⟩
  · rw [List.map_map]
    refine p.trans (List.Perm.of_eq (List.map_congr_left fun z hz => ?_))
    show _ = nat2 (spots (fs.map (Option.map ren)) (ren z))
    rw [sp z ((a z).mp hz)]
/-- one form in the place of another -/
def joinF (z1 z2 : Str) (fs : List (Option Str)) : List (Option Str) := fs.map fun f => if f = some z2 then some z1 else f
/-- the cells that have the one or the other form -/
def bothN (z1 z2 : Str) (fs : List (Option Str)) (i : Nat) : List Nat := (List.range i).filter fun j => decide (fs[j]? = some (some z1) ∨ fs[j]? = some (some z2))
theorem both_next {fs : List (Option Str)} {z1 z2 : Str} {i : Nat} {f : Option Str} (e : fs[i]? = some f) : bothN z1 z2 fs (i + 1) = bothN z1 z2 fs i ++ (if f = some z1 ∨ f = some z2 then [i] else []) := by
  unfold bothN
  rw [List.range_succ, List.filter_append, List.filter_cons, List.filter_nil, e]
  have q : (some f = some (some z1) ∨ some f = some (some z2)) ↔ (f = some z1 ∨ f = some z2) := ⟨fun h => h.imp Option.some.inj Option.some.inj, fun h => h.imp (congrArg some) (congrArg some)⟩
  by_cases c : f = some z1 ∨ f = some z2
  · rw [if_pos c, if_pos (decide_eq_true (q.mpr c))]
  · rw [if_neg c, if_neg (fun h => c (q.mp (of_decide_eq_true h)))]
theorem both_len (z1 z2 : Str) (fs : List (Option Str)) (i : Nat) : (bothN z1 z2 fs i).length ≤ i := by
  have h := List.length_filter_le (fun j => decide (fs[j]? = some (some z1) ∨ fs[j]? = some (some z2))) (List.range i)
  rwa [List.length_range] at h
theorem join_both (z1 z2 : Str) (fs : List (Option Str)) : spots (joinF z1 z2 fs) z1 = bothN z1 z2 fs fs.length := by
  unfold spots bothN joinF
  rw [List.length_map]
  refine List.filter_congr fun i hi => ?_
  rw [decide_eq_decide, List.getElem?_map]
  cases e : fs[i]? with
  | none => simp
  | some f =>
    show some (if f = some z2 then some z1 else f) = some (some z1) ↔ _
    by_cases c : f = some z2
    · rw [if_pos c, c]
      simp
    · rw [if_neg c]
      constructor
      · exact .inl
      · rintro (h | h)
        · exact h
        · exact absurd (Option.some.inj h) c
theorem join_else {z1 z2 z : Str} (fs : List (Option Str)) (h1 : z ≠ z1) (h2 : z ≠ z2) : spots (joinF z1 z2 fs) z = spots fs z := by
  unfold spots joinF
  rw [List.length_map]
  refine List.filter_congr fun i hi => ?_
  rw [decide_eq_decide, List.getElem?_map]
  cases e : fs[i]? with
  | none => simp
  | some f =>
    show some (if f = some z2 then some z1 else f) = some (some z) ↔ _
    by_cases c : f = some z2
    · rw [if_pos c, c]
      constructor
      · intro q
        exact absurd (Option.some.inj (Option.some.inj q)).symm h1
      · intro q
        exact absurd (Option.some.inj (Option.some.inj q)).symm h2
    · rw [if_neg c]
theorem mem_join {z1 z2 z : Str} {fs : List (Option Str)} (m2 : some z2 ∈ fs) : some z ∈ joinF z1 z2 fs ↔ z = z1 ∨ (z ≠ z2 ∧ some z ∈ fs) := by
  unfold joinF
  rw [List.mem_map]
  constructor
  · rintro ⟨f, hf, e⟩
    by_cases c : f = some z2
    · rw [if_pos c] at e
      exact .inl (Option.some.inj e).symm
    · rw [if_neg c] at e
      exact .inr ⟨fun q => c (e.trans (congrArg some q)), e ▸ hf⟩
  · rintro (h | ⟨h, m⟩)
    · exact ⟨some z2, m2, by rw [if_pos rfl, h]⟩
    · exact ⟨some z, m, if_neg fun q => h (Option.some.inj q)⟩
/-- does the tuple begin outside of both? -/
def apart (b : List Nat) (c : List Int) : Bool := !decide (c.headD 0 ∈ nat2 b)
theorem mem_nat2 {j : Nat} {js : List Nat} : (j : Int) ∈ nat2 js ↔ j ∈ js := by
  unfold nat2
  rw [List.mem_map]
  constructor
  · rintro ⟨k, hk, e⟩
    have : k = j := by omega
    exact this ▸ hk
  · exact fun h => ⟨j, h, rfl⟩
theorem mem_both {z1 z2 : Str} {fs : List (Option Str)} {j : Nat} : j ∈ bothN z1 z2 fs fs.length ↔ fs[j]? = some (some z1) ∨ fs[j]? = some (some z2) := by
  unfold bothN
  rw [List.mem_filter, List.mem_range, decide_eq_true_eq]
  exact ⟨fun h => h.2, fun h => ⟨h.elim (fun q => (List.getElem?_eq_some_iff.mp q).1) (fun q => (List.getElem?_eq_some_iff.mp q).1), h⟩⟩
theorem apart_spots {z1 z2 z : Str} {fs : List (Option Str)} (m : some z ∈ fs) : apart (bothN z1 z2 fs fs.length) (nat2 (spots fs z)) = decide (z ≠ z1 ∧ z ≠ z2) := by
  obtain ⟨j, js, e⟩ : ∃ j js, spots fs z = j :: js := by
    cases e : spots fs z with
    | nil => exact absurd e (spots_ne m)
    | cons j js => exact ⟨j, js, rfl⟩
  have at_ : fs[j]? = some (some z) := spots_at.mp (by rw [e]; exact List.mem_cons_self)
  unfold apart
  rw [e]
  show (!decide ((j : Int) ∈ nat2 (bothN z1 z2 fs fs.length))) = _
  rw [Bool.eq_iff_iff, Bool.not_eq_true', decide_eq_false_iff_not, decide_eq_true_eq, mem_nat2, mem_both, at_]
  constructor
  · intro h
    exact ⟨fun q => h (.inl (by rw [q])), fun q => h (.inr (by rw [q]))⟩
  · rintro ⟨h1, h2⟩ (q | q)
    · exact h1 (Option.some.inj (Option.some.inj q))
    · exact h2 (Option.some.inj (Option.some.inj q))
/-- the tuples that begin elsewhere, and both: these are told of the joined one -/
theorem Sm.join {fs : List (Option Str)} {cs ds : List (List Int)} {z1 z2 : Str} (h : Sm fs cs) (m1 : some z1 ∈ fs) (m2 : some z2 ∈ fs) (ne : z1 ≠ z2) (up : ds.Pairwise leC)
    (p : ds.Perm (cs.filter (apart (bothN z1 z2 fs fs.length)) ++ [nat2 (bothN z1 z2 fs fs.length)])) : Sm (joinF z1 z2 fs) ds := by
  obtain ⟨zs, n, a, q⟩ := h.of
  have mid : (zs.filter fun z => decide (z ≠ z2)).Perm ((zs.filter fun z => decide (z ≠ z1 ∧ z ≠ z2)) ++ [z1]) := by
    refine (List.perm_ext_iff_of_nodup (n.sublist List.filter_sublist) (List.nodup_append.mpr ⟨n.sublist List.filter_sublist, by simp, fun x hx y hy e => ?_⟩)).mpr fun z => ?_
    · rw [List.mem_singleton.mp hy] at e
      have := of_decide_eq_true (List.mem_filter.mp hx).2
      exact this.1 e
    · rw [List.mem_append, List.mem_filter, List.mem_filter, List.mem_singleton, decide_eq_true_eq, decide_eq_true_eq]
      constructor
      · rintro ⟨x, y⟩
        by_cases e : z = z1
        · exact .inr e
        · exact .inl ⟨x, e, y⟩
      · rintro (⟨x, _, y⟩ | e)
        · exact ⟨x, y⟩
        · rw [e]
          exact ⟨(a z1).mpr m1, ne⟩
  refine ⟨up, zs.filter fun z => decide (z ≠ z2), n.sublist List.filter_sublist, fun z => ?_, ?_⟩
  · rw [mem_join m2, List.mem_filter, decide_eq_true_eq, a z]
    constructor
    · rintro ⟨x, y⟩
      exact .inr ⟨y, x⟩
    · rintro (e | ⟨x, y⟩)
      · rw [e]
        exact ⟨m1, ne⟩
      · exact ⟨y, x⟩
  · refine p.trans (List.Perm.trans ?_ (mid.map _).symm)
    rw [List.map_append]
    refine List.Perm.append ?_ (List.Perm.of_eq (by rw [List.map_cons, List.map_nil, join_both]))
    refine (q.filter _).trans (List.Perm.of_eq ?_)
    rw [List.filter_map]
    have e1 : zs.filter (apart (bothN z1 z2 fs fs.length) ∘ fun z => nat2 (spots fs z)) = zs.filter fun z => decide (z ≠ z1 ∧ z ≠ z2) := List.filter_congr fun z hz => apart_spots ((a z).mp hz)
    rw [e1]
    refine List.map_congr_left fun z hz => ?_
    have := of_decide_eq_true (List.mem_filter.mp hz).2
    rw [join_else fs this.1 this.2]
theorem join_len (z1 z2 : Str) (fs : List (Option Str)) : (joinF z1 z2 fs).length = fs.length := List.length_map ..
/-- a joined table's forms are forms of a table -/
theorem FormsOk.join {n : Nat} {fs : List (Option Str)} {z1 z2 : Str} (ok : FormsOk n fs) (m1 : some z1 ∈ fs) (m2 : some z2 ∈ fs) (rise : ∃ zs, Rising fs zs) : FormsOk n (joinF z1 z2 fs) := by
  obtain ⟨zs, r⟩ := rise
  refine ⟨by rw [join_len]; exact ok.len, ok.few, fun z hz => ?_, fun us ru => ?_⟩
  · rcases (mem_join m2).mp hz with e | ⟨_, m⟩
    · rw [e]; exact ok.word z1 m1
    · exact ok.word z m
  · have sub : us.length ≤ zs.length := List.Nodup.length_le_of_subset ru.nd fun z hz => (r.all z).mpr (by
      rcases (mem_join m2).mp ((ru.all z).mp hz) with e | ⟨_, m⟩
      · rw [e]; exact m1
      · exact m)
    have := ok.unlike zs r
    omega
end Xci

namespace Xci
open PySem L2
/-! ### another source of draws: its state stands ahead of its count -/
def Dice (H : Hp) (a l : Addr) : Prop := ∃ (ns : List Int) (i c s n : Int), H a = some (.lst [.ref l, .int i, .int c, .int s, .int n]) ∧ H l = some (.lst (ns.map V.int)) ∧ a ≠ l ∧ (∀ z ∈ ns, 0 ≤ z) ∧ 0 ≤ i ∧ i ≤ (ns.length : Int) ∧ 0 ≤ c ∧ 0 ≤ s ∧ s < 2147483647
theorem Dice.is {H : Hp} {a l : Addr} (d : Dice H a l) : ∃ ys, H a = some (.lst ys) := by
  obtain ⟨ns, i, c, s, n, h, _⟩ := d
  exact ⟨_, h⟩
theorem Dice.is' {H : Hp} {a l : Addr} (d : Dice H a l) : ∃ ys, H l = some (.lst ys) := by
  obtain ⟨ns, i, c, s, n, _, h, _⟩ := d
  exact ⟨_, h⟩
theorem Dice.tfr {H H' : Hp} {a l : Addr} (d : Dice H a l) (f : Fr a H H') : TFr H H' := by
  obtain ⟨ys, h⟩ := d.is
  exact TFr.fr h f
theorem Dice.keep {H H' : Hp} {a l : Addr} (d : Dice H a l) (f : Same H H') : Dice H' a l := by
  obtain ⟨ns, i, c, s, n, h, hl, r⟩ := d
  exact ⟨ns, i, c, s, n, f _ _ h, f _ _ hl, r⟩
theorem Dice.put {H : Hp} {a l q : Addr} {o : HO} (d : Dice H a l) (n1 : q ≠ a) (n2 : q ≠ l) : Dice (upd H q o) a l := by
  obtain ⟨ns, i, c, s, n, h, hl, r⟩ := d
  exact ⟨ns, i, c, s, n, by rw [upd_ne n1.symm]; exact h, by rw [upd_ne n2.symm]; exact hl, r⟩
theorem Dice.ne {H : Hp} {a l q : Addr} (d : Dice H a l) (h : H q = Option.none) : q ≠ a := by
  obtain ⟨ys, z⟩ := d.is
  exact (ne_of_none z h).symm
theorem Dice.ne' {H : Hp} {a l q : Addr} (d : Dice H a l) (h : H q = Option.none) : q ≠ l := by
  obtain ⟨ys, z⟩ := d.is'
  exact (ne_of_none z h).symm
theorem Dice.free {H H' : Hp} {a l q : Addr} (d : Dice H' a l) (f : Fr a H H') (h : H' q = Option.none) : H q = Option.none := by
  have n := d.ne h
  cases e : H q with
  | none => rfl
  | some u => rw [f q u e n] at h; cases h
def spDraw : Sp := fun vs H Q _ => ∃ (a l : Addr) (m : Int), vs = [.ref a, .int m] ∧ Dice H a l ∧ 0 < m ∧ m < 1073741824 ∧ ∀ (d : Int) (H' : Hp), 0 ≤ d → d < m → Dice H' a l → Fr a H H' → Q (.int d) H'
def spDice (K : PySem.W.Frag) : Sp := fun vs H Q _ => ∃ (a : Addr) (ns : List Int), vs = [.ref a] ∧ SqL K H a (ns.map V.int) ∧ ns.length ≤ 63 ∧ ∀ (d l : Addr) (H' : Hp), Dice H' d l → Same H H' → Q (.ref d) H'
def spRare (K : PySem.W.Frag) : Sp := fun vs H Q _ => ∃ (a : Addr) (ns : List Int) (m : Int), vs = [.ref a, .int m] ∧ SqL K H a (ns.map V.int) ∧ ns.length ≤ 63 ∧ 0 < m ∧ ∀ (d : Int) (H' : Hp), 0 ≤ d → d < m → Same H H' → Q (.int d) H'
def spOrder : Sp := fun vs H Q _ => ∃ (a l : Addr) (m : Nat), vs = [.ref a, .int (m : Int)] ∧ Dice H a l ∧ m ≤ 64 ∧
  ∀ (q : Addr) (js : List Nat) (H' : Hp), js.Perm (List.range m) → H' q = some (.lst ((nat2 js).map V.int)) → H q = Option.none → Dice H' a l → Fr a H H' → Q (.ref q) H'
def spAllCells : Sp := fun vs H Q _ => ∃ n : Int, vs = [.int n] ∧ 0 ≤ n ∧ n ≤ 6 ∧ ∀ (q : Addr) (ys : List V) (cs : List (List Int)) (H' : Hp), H' q = some (.lst ys) → Mks H' ys cs → cs.Perm (lots (rng n)) → Same H H' → H q = Option.none → Q (.ref q) H'
def spFamilyD : Sp := fun vs H Q _ => ∃ (a l : Addr) (mm mc : Int), vs = [.ref a, .int mm, .int mc] ∧ Dice H a l ∧ 0 ≤ mm ∧ mm ≤ 6 ∧ 1 ≤ mc ∧ mc ≤ 24 ∧
  ∀ (v : V) (p : Addr) (many : Int) (ys : List V) (cells : List (List Int)) (H' : Hp), Tup H' v [.int many, .ref p] → H' p = some (.tup ys) → Mks H' ys cells → FamOk many cells → Dice H' a l → Fr a H H' → Q v H'
def spSomeT : Sp := fun vs H Q _ => ∃ (a l : Addr) (v : V) (ms : List Int), vs = [.ref a, v] ∧ Dice H a l ∧ Xci.Mk H v ms ∧ ms.length ≤ 64 ∧ ∀ (u : V) (ks : List Int) (H' : Hp), Xci.Mk H' u ks → ks.Sublist ms → Dice H' a l → Fr a H H' → Q u H'
def spSomeL : Sp := fun vs H Q _ => ∃ (a l p : Addr) (ms : List Int), vs = [.ref a, .ref p] ∧ Dice H a l ∧ H p = some (.lst (ms.map V.int)) ∧ p ≠ a ∧ ms.length ≤ 64 ∧ ∀ (u : V) (ks : List Int) (H' : Hp), Xci.Mk H' u ks → ks.Sublist ms → Dice H' a l → Fr a H H' → Q u H'
def spSome : Sp := fun vs H Q E => spSomeT vs H Q E ∨ spSomeL vs H Q E
/-! ### rules -/
/-- a strike (of y where x is), or a lead (from x to y) -/
structure Rl where
  st : Bool
  x : List Int
  y : List Int
def Rl.word (r : Rl) : Str := if r.st then "strike" else "lead"
def RlV (H : Hp) (v : V) (r : Rl) : Prop := ∃ u w, Tup H v [.str r.word, u, w] ∧ Xci.Mk H u r.x ∧ Xci.Mk H w r.y
theorem RlV.keep {H H' : Hp} {v : V} {r : Rl} (f : TFr H H') (h : RlV H v r) : RlV H' v r := by
  obtain ⟨u, w, a, b, c⟩ := h
  exact ⟨u, w, a.keep f, Tup.keep f b, Tup.keep f c⟩
structure RlOk (r : Rl) : Prop where
  x : MarksOk 6 r.x
  y : MarksOk 6 r.y
abbrev Rls (H : Hp) (vs : List V) (rs : List Rl) : Prop := Paired (fun v r => RlV H v r) vs rs
theorem Rls.keep {H H' : Hp} {vs : List V} {rs : List Rl} (f : TFr H H') (t : Rls H vs rs) : Rls H' vs rs := Paired.mapP t fun _ _ h => RlV.keep f h
def lessM (c ys : List Int) : List Int := c.filter fun m => !decide (m ∈ ys)
def stepR (r : Rl) (c : List Int) : List Int := if r.st = true then (if inside r.x c = true then lessM c r.y else c) else (if r.x = c then r.y else c)
def behindR (rs : List Rl) (c : List Int) : List Int := rs.foldl (fun c r => stepR r c) c
theorem stepR_ok {r : Rl} {c : List Int} (ok : RlOk r) (h : MarksOk 6 c) : MarksOk 6 (stepR r c) := by
  unfold stepR
  split
  · split
    · exact h.sub List.filter_sublist
    · exact h
  · split
    · exact ok.y
    · exact h
theorem behindR_ok : ∀ {rs : List Rl} {c : List Int}, (∀ r ∈ rs, RlOk r) → MarksOk 6 c → MarksOk 6 (behindR rs c)
  | [], _, _, h => h
  | r :: rs, c, ok, h => behindR_ok (rs := rs) (fun x hx => ok x (List.mem_cons_of_mem _ hx)) (stepR_ok (ok r List.mem_cons_self) h)
theorem behindR_app (rs ss : List Rl) (c : List Int) : behindR (rs ++ ss) c = behindR ss (behindR rs c) := List.foldl_append ..
theorem behindR_next {rs : List Rl} {i : Nat} {r : Rl} (c : List Int) (h : rs[i]? = some r) : behindR (rs.take (i + 1)) c = stepR r (behindR (rs.take i) c) := by
  rw [List.take_add_one, h, behindR_app] <;> rfl
theorem lessM_lessM (c ys : List Int) : lessM (lessM c ys) ys = lessM c ys := by
  unfold lessM
  rw [List.filter_filter]
  refine List.filter_congr fun m _ => ?_
  rw [Bool.and_self]
theorem strike_twice (r : Rl) (h : r.st = true) (c : List Int) : stepR r (stepR r c) = stepR r c := by
  unfold stepR
  rw [if_pos h, if_pos h]
  by_cases e : inside r.x c = true
  · rw [if_pos e]
    split
    · exact lessM_lessM _ _
    · rfl
  · rw [if_neg e, if_neg e]
theorem lessM_next {c : List Int} {i : Nat} {m : Int} (ys : List Int) (h : c[i]? = some m) : lessM (c.take (i + 1)) ys = lessM (c.take i) ys ++ (if (!decide (m ∈ ys)) = true then [m] else []) := by
  unfold lessM
  rw [List.take_add_one, h, List.filter_append]
  refine congrArg _ ?_
  show ([m] : List Int).filter _ = _
  rw [List.filter_cons, List.filter_nil]
theorem lessM_len (c ys : List Int) (i : Nat) : (lessM (c.take i) ys).length ≤ i := Nat.le_trans (List.length_filter_le _ _) (List.length_take_le _ _)
theorem eqv_marks (a b : List Int) : PyData.eqv (.tuple (a.map PyData.int)) (.tuple (b.map PyData.int)) = decide (a = b) := by
  simp only [PyData.eqv]
  exact eqvAll_ints a b
theorem eq_marks {K : PySem.W.Frag} {H : Hp} {u v : V} {a b : List Int} {Q : V → Hp → Prop} (hu : Xci.Mk H u a) (hv : Xci.Mk H v b) (q : Q (.bl (decide (a = b))) H) : rEqD K u v H Q := by
  refine ⟨_, _, dp_marks hu, dp_marks hv, sh_marks a, sh_marks b, ?_⟩
  rw [eqv_marks]
  exact q
/-- rules compare -/
def rlD (r : Rl) : PyData := .tuple [.str r.word, .tuple (r.x.map PyData.int), .tuple (r.y.map PyData.int)]
theorem dp_rl {K : PySem.W.Frag} {H : Hp} {v : V} {r : Rl} (h : RlV H v r) : Dp K H v (rlD r) := by
  obtain ⟨u, w, ⟨p, rfl, hp⟩, mu, mw⟩ := h
  exact .tup (sqT hp) (.cons (.str _) (.cons (dp_marks mu) (.cons (dp_marks mw) .nil)))
theorem dp_rls {K : PySem.W.Frag} {H : Hp} : ∀ {ys : List V} {rs : List Rl}, Rls H ys rs → DpAll K H ys (rs.map rlD)
  | _, _, .nil => .nil
  | _, _, .cons m r => .cons (dp_rl m) (dp_rls r)
theorem lay_rl (r : Rl) : PyData.canLay0 (rlD r) = true ∧ PyData.depth (rlD r) ≤ 2 := by
  obtain ⟨a, b⟩ := lay_ints r.x
  obtain ⟨c, d⟩ := lay_ints r.y
  have w : PyData.strOk r.word = true := by
    unfold Rl.word
    cases r.st <;> decide +kernel
  refine ⟨by simp [rlD, PyData.canLay0, PyData.canLayAll0, a, c, w], ?_⟩
  simp [rlD, PyData.depth, PyData.depthAll, b, d]
theorem lay_rls : ∀ (rs : List Rl), PyData.canLayAll0 (rs.map rlD) = true ∧ PyData.depthAll (rs.map rlD) ≤ 2
  | [] => ⟨rfl, Nat.zero_le _⟩
  | r :: rs => by
    obtain ⟨a, b⟩ := lay_rls rs
    obtain ⟨c, d⟩ := lay_rl r
    rw [List.map_cons]
    refine ⟨by rw [PyData.canLayAll0, a, c] <;> rfl, ?_⟩
    rw [PyData.depthAll]
    exact Nat.max_le.mpr ⟨d, b⟩
theorem sh_rls (rs : List Rl) : SeqAt.shaped (.list (rs.map rlD)) = true := by
  obtain ⟨a, b⟩ := lay_rls rs
  have d : PyData.depth (.list (rs.map rlD)) ≤ 64 := by
    simp only [PyData.depth]
    omega
  unfold SeqAt.shaped
  rw [decide_eq_true d, Bool.and_true]
  simpa [PyData.canLay0] using a
theorem ne_rls {K : PySem.W.Frag} {H : Hp} {a b : Addr} {xs ys : List V} {rs : List Rl} {Q : V → Hp → Prop} (ha : H a = some (.lst xs)) (hb : H b = some (.lst ys)) (ma : Rls H xs rs) (mb : Rls H ys rs) (q : Q (.bl false) H) : rNeD K (.ref a) (.ref b) H Q := by
  refine ⟨_, _, .lst (SqL.of ha) (dp_rls ma), .lst (SqL.of hb) (dp_rls mb), sh_rls rs, sh_rls rs, ?_⟩
  rw [eqv_same (sh_rls rs)]
  exact q
theorem ne_mk {K : PySem.W.Frag} {H : Hp} {u v : V} {ms : List Int} {Q : V → Hp → Prop} (hu : Xci.Mk H u ms) (hv : Xci.Mk H v ms) (q : Q (.bl false) H) : rNeD K u v H Q := ne_tup hu hv (ok_intsV ms) q
def spLawBehind : Sp := fun vs H Q _ => ∃ (p : Addr) (v : V) (ys : List V) (rs : List Rl) (c : List Int), vs = [.ref p, v] ∧ H p = some (.lst ys) ∧ Rls H ys rs ∧ (∀ r ∈ rs, RlOk r) ∧ Xci.Mk H v c ∧ MarksOk 6 c ∧ ∀ (u : V) (H' : Hp), Xci.Mk H' u (behindR rs c) → Same H H' → Q u H'
def spLawRule : Sp := fun vs H Q _ => ∃ (a l p : Addr) (many : Int) (ys : List V) (cells : List (List Int)), vs = [.ref a, .int many, .ref p] ∧ Dice H a l ∧ 0 ≤ many ∧ many ≤ 6 ∧ H p = some (.tup ys) ∧ Mks H ys cells ∧ cells ≠ [] ∧ cells.length ≤ 24 ∧ (∀ c ∈ cells, MarksOk 6 c) ∧
  ∀ (v : V) (r : Rl) (H' : Hp), RlV H' v r → RlOk r → Dice H' a l → Fr a H H' → Q v H'
def spIsRule : Sp := fun vs H Q _ => ∃ (v : V) (r : Rl), vs = [v] ∧ RlV H v r ∧ RlOk r ∧ ∀ H', Same H H' → Q (.bl true) H'
/-- a list or a tuple of rules -/
structure RlsAt (w : Bool) (H : Hp) (p : Addr) (ys : List V) (rs : List Rl) : Prop where
  at_ : H p = some (if w = true then .lst ys else .tup ys)
  rl : Rls H ys rs
  ok : ∀ r ∈ rs, RlOk r
  few : rs.length ≤ 20
theorem RlsAt.keep {w : Bool} {H H' : Hp} {p : Addr} {ys : List V} {rs : List Rl} (h : RlsAt w H p ys rs) (s : Same H H') : RlsAt w H' p ys rs := ⟨s _ _ h.at_, h.rl.keep (TFr.same s), h.ok, h.few⟩
def spAreRules (w : Bool) : Sp := fun vs H Q _ => ∃ (p : Addr) (ys : List V) (rs : List Rl), vs = [.ref p] ∧ RlsAt w H p ys rs ∧ ∀ H', Same H H' → Q (.bl true) H'
def spNeedRules (w : Bool) : Sp := fun vs H Q _ => ∃ (p : Addr) (ys : List V) (rs : List Rl), vs = [.ref p] ∧ RlsAt w H p ys rs ∧ ∀ H', Same H H' → Q .non H'
def spBehind (w : Bool) : Sp := fun vs H Q _ => ∃ (p : Addr) (v : V) (ys : List V) (rs : List Rl) (c : List Int), vs = [.ref p, v] ∧ RlsAt w H p ys rs ∧ Xci.Mk H v c ∧ MarksOk 6 c ∧ ∀ (u : V) (H' : Hp), Xci.Mk H' u (behindR rs c) → Same H H' → Q u H'
def spEither (f : Bool → Sp) : Sp := fun vs H Q E => f true vs H Q E ∨ f false vs H Q E
theorem ok_either {P : Program} {w : World} {K : PySem.W.Frag} {mg : Str → Option Value} {base : Heap} {f : Addr} {fd : FuncData} {ps : List Str} {k : Nat} {sp sp' : Sp} (g : FnOk P w K mg base CX0 k f fd ps sp) (g' : FnOk P w K mg base CX0 k f fd ps sp') : FnOk P w K mg base CX0 k f fd ps (fun vs H Q E => sp vs H Q E ∨ sp' vs H Q E) :=
  ⟨fun vs H Q E h => h.elim (g.len vs H Q E) (g'.len vs H Q E), fun A outer s H args us vs Q E hr he hb hv hs => hs.elim (fun h => g.run A outer s H args us vs Q E hr he hb hv h) (fun h => g'.run A outer s H args us vs Q E hr he hb hv h)⟩
end Xci

namespace Xci
open PySem PySem.Spec PyProof.Rows L2
/-! ### tables that books make, in any of the four manners -/
theorem ok_imp {P : Program} {w : World} {K : PySem.W.Frag} {mg : Str → Option Value} {base : Heap} {f : Addr} {fd : FuncData} {ps : List Str} {k : Nat} {sp sp' : Sp} (g : FnOk P w K mg base CX0 k f fd ps sp) (h : ∀ vs H Q E, sp' vs H Q E → sp vs H Q E) : FnOk P w K mg base CX0 k f fd ps sp' :=
  ⟨fun vs H Q E q => g.len vs H Q E (h _ _ _ _ q), fun A outer s H args us vs Q E hr he hb hv q => g.run A outer s H args us vs Q E hr he hb hv (h _ _ _ _ q)⟩
theorem ok_both {P : Program} {w : World} {K : PySem.W.Frag} {mg : Str → Option Value} {base : Heap} {f : Addr} {fd : FuncData} {ps : List Str} {k : Nat} {sp sp' : Sp} (g : FnOk P w K mg base CX0 k f fd ps sp) (g' : FnOk P w K mg base CX0 k f fd ps sp') : FnOk P w K mg base CX0 k f fd ps (fun vs H Q E => sp vs H Q E ∨ sp' vs H Q E) :=
  ⟨fun vs H Q E h => h.elim (g.len vs H Q E) (g'.len vs H Q E), fun A outer s H args us vs Q E hr he hb hv hs => hs.elim (fun h => g.run A outer s H args us vs Q E hr he hb hv h) (fun h => g'.run A outer s H args us vs Q E hr he hb hv h)⟩
theorem n_row3 {man : Str} (h : Man man) : man = "row" ∨ (man ≠ "row" ∧ Man3 man) := by
  rcases h with rfl | rfl | rfl | rfl
  · exact .inl rfl
  · exact .inr ⟨by decide +kernel, .inl rfl⟩
  · exact .inr ⟨by decide +kernel, .inr (.inl rfl)⟩
  · exact .inr ⟨by decide +kernel, .inr (.inr rfl)⟩
theorem n_roww : ("row" : Str) ≠ "weights" := by decide +kernel
/-- the number of the entry that speaks at a cell, in any manner -/
def whoN (man : Str) (ws : List Int) (es : List Ent) (ms : List Int) : Option Nat :=
  if man = "row" then (fitN es ms).head? else match lawRes (fitN es ms) (beatA man ws es) with
    | .ent j => some j
    | _ => none
/-- the form that is heard at a cell -/
def heard (man : Str) (ws : List Int) (es : List Ent) (ms : List Int) : Option Str := match whoN man ws es ms with
  | some j => (es[j]?).map (·.2)
  | none => none
def heardAll (man : Str) (ws : List Int) (es : List Ent) (cells : List (List Int)) : List (Option Str) := cells.map (heard man ws es)
def numV : Option Nat → V
  | some j => .int (j : Int)
  | none => .non
theorem who_row (ws : List Int) (es : List Ent) (ms : List Int) : numV (whoN "row" ws es ms) = hd1 (fitN es ms) := by
  unfold whoN
  rw [if_pos rfl]
  cases fitN es ms <;> rfl
theorem who_res {man : Str} (h : man ≠ "row") (ws : List Int) (es : List Ent) (ms : List Int) : numV (whoN man ws es ms) = resV (lawRes (fitN es ms) (beatA man ws es)) := by
  unfold whoN
  rw [if_neg h]
  cases lawRes (fitN es ms) (beatA man ws es) <;> rfl
theorem who_lt {man : Str} {ws : List Int} {es : List Ent} {ms : List Int} {j : Nat} (h : whoN man ws es ms = some j) : j < es.length := by
  unfold whoN at h
  split at h
  · exact fit_lt j (List.mem_of_mem_head? h)
  · rcases lawRes_cases (beatA_ok man ws es) (fit_nd es ms) with ⟨_, r⟩ | ⟨n, hw, r⟩ | ⟨_, _, r⟩
    · rw [r] at h; cases h
    · rw [r] at h
      obtain rfl := Option.some.inj h
      exact fit_lt _ hw.1
    · rw [r] at h; cases h
theorem heard_at {man : Str} {ws : List Int} {es : List Ent} {ms : List Int} {j : Nat} {e : Ent} (h : whoN man ws es ms = some j) (he : es[j]? = some e) : heard man ws es ms = some e.2 := by
  unfold heard
  rw [h]
  show (es[j]?).map (·.2) = _
  rw [he]
  rfl
theorem heard_non {man : Str} {ws : List Int} {es : List Ent} {ms : List Int} (h : whoN man ws es ms = none) : heard man ws es ms = none := by
  unfold heard
  rw [h]
theorem heard_mem {man : Str} {ws : List Int} {es : List Ent} {ms : List Int} {z : Str} (h : heard man ws es ms = some z) : z ∈ es.map (·.2) := by
  unfold heard at h
  split at h
  · rename_i j _
    obtain ⟨e, he, rfl⟩ := Option.map_eq_some_iff.mp h
    exact List.mem_map_of_mem (List.mem_of_getElem? he)
  · cases h
theorem heardAll_mem {man : Str} {ws : List Int} {es : List Ent} {cells : List (List Int)} {z : Str} (h : some z ∈ heardAll man ws es cells) : z ∈ es.map (·.2) := by
  obtain ⟨c, _, e⟩ := List.mem_map.mp h
  exact heard_mem e
theorem heardAll_len (man : Str) (ws : List Int) (es : List Ent) (cells : List (List Int)) : (heardAll man ws es cells).length = cells.length := by unfold heardAll; rw [List.length_map]
theorem heardAll_at {man : Str} {ws : List Int} {es : List Ent} {cells : List (List Int)} {i : Nat} {c : List Int} (h : cells[i]? = some c) : (heardAll man ws es cells)[i]? = some (heard man ws es c) := by
  unfold heardAll
  rw [List.getElem?_map, h]
  rfl
/-- forms out of few words -/
theorem forms_few {n : Nat} {fs : List (Option Str)} {zs : List Str} (len : fs.length = n) (few : n ≤ 24) (ok : ∀ z ∈ zs, WordOk z) (le : zs.length ≤ 12) (all : ∀ z, some z ∈ fs → z ∈ zs) : FormsOk n fs :=
  ⟨len, few, fun z hz => ok z (all z hz), fun us rise => Nat.le_trans (List.Nodup.length_le_of_subset rise.nd fun x hx => all x ((rise.all x).mp hx)) le⟩
theorem words_ok {es : List Ent} (h : ∀ e ∈ es, EntOk e) : ∀ z ∈ es.map (·.2), WordOk z := fun z hz => by
  obtain ⟨e, he, rfl⟩ := List.mem_map.mp hz
  exact (h e he).w
/-- told forms that are due, number by number below i -/
def fits1 (fs due : List (Option Str)) (j : Nat) : Bool := decide (fs.getD j none = none) || decide (fs.getD j none = due.getD j none)
def agree (fs due : List (Option Str)) (i : Nat) : Bool := (List.range i).all (fits1 fs due)
theorem agree_next (fs due : List (Option Str)) (i : Nat) : agree fs due (i + 1) = (agree fs due i && fits1 fs due i) := by
  unfold agree
  rw [List.range_succ, List.all_append]
  simp
theorem agree_no {fs due : List (Option Str)} {i n : Nat} (h : fits1 fs due i = false) (hi : i < n) : agree fs due n = false := by
  cases e : agree fs due n with
  | false => rfl
  | true =>
    have := List.all_eq_true.mp e i (List.mem_range.mpr hi)
    rw [h] at this
    cases this
theorem agree_all {fs due : List (Option Str)} {n : Nat} (h : ∀ j, j < n → fs.getD j none = none ∨ fs.getD j none = due.getD j none) : agree fs due n = true := by
  unfold agree
  refine List.all_eq_true.mpr fun j hj => ?_
  unfold fits1
  rcases h j (List.mem_range.mp hj) with e | e
  · rw [decide_eq_true e, Bool.true_or]
  · rw [decide_eq_true e, Bool.or_true]
theorem fits1_at {fs due : List (Option Str)} {i : Nat} {f d : Option Str} (h : fs[i]? = some f) (k : due[i]? = some d) : fits1 fs due i = (decide (f = none) || decide (f = d)) := by
  unfold fits1
  rw [List.getD_eq_getElem?_getD, List.getD_eq_getElem?_getD, h, k]
  rfl
theorem formV_eq (f g : Option Str) : decide (formV f = formV g) = decide (f = g) := by
  cases f with
  | none => cases g <;> rfl
  | some y =>
    cases g with
    | none => rfl
    | some z =>
      rw [decide_eq_decide]
      exact ⟨fun h => by rw [V.str.inj h], fun h => by rw [Option.some.inj h]⟩
theorem formV_non (f : Option Str) : decide (formV f = V.non) = decide (f = none) := formV_eq f none
theorem forms_scal (f g : Option Str) : scal (formV f) (formV g) = true := by cases f <;> cases g <;> rfl
theorem cutFrom (xs : List V) (k : Nat) : cutV xs (some (k : Int)) none = xs.drop k := by
  unfold cutV
  have e1 : HT.sIx xs.length xs.length none = xs.length := rfl
  rw [e1, HT.sIx_nat]
  by_cases h : k ≤ xs.length
  · rw [Nat.min_eq_left h, List.take_of_length_le (by rw [List.length_drop]; exact Nat.le_refl _)]
  · rw [Nat.min_eq_right (by omega), List.drop_of_length_le (Nat.le_refl _), List.drop_of_length_le (by omega)]
    simp
theorem made_table {CF C x dx fam p pc : Addr} {H : Hp} {many : Int} {ys : List V} {fs : List (Option Str)} {Q : VK} {E : XK} (nx : H x = Option.none) (ndx : H dx = Option.none) (hf : FamAt CF H fam many pc) (hc : H pc = some (.tup ys)) (hp : H p = some (.tup (fs.map formV))) (ok : FormsOk ys.length fs)
    (G : ∀ H', TabAt C H' x fam p → Same H H' → Q .non H') : spTab CF C [.ref x, .ref fam, .ref p] (upd (upd H dx (.own x)) x (.ins C dx [])) Q E := by
  have s3 : Same H (upd (upd H dx (.own x)) x (.ins C dx [])) := fun b o e => by rw [upd_ne (ne_of_none e nx), upd_ne (ne_of_none e ndx)]; exact e
  obtain ⟨df, hf⟩ := hf
  refine ⟨x, dx, fam, many, pc, ys, p, fs, rfl, upd_same, ⟨df, s3 _ _ hf⟩, (ne_of_none hf nx).symm, s3 _ _ hc, s3 _ _ hp, ok, fun H' ht kp => ?_⟩
  exact G H' ht fun b o e => kp b o (s3 b o e) (ne_of_none e nx)
/-- some of the told forms are opened -/
def Less (due gs : List (Option Str)) : Prop := ∀ (j : Nat) (x : Option Str), gs[j]? = some x → x = none ∨ due[j]? = some x
theorem Less.agree {due gs : List (Option Str)} (h : Less due gs) (n : Nat) (hn : n ≤ gs.length) : agree gs due n = true := agree_all fun j hj => by
  have g := List.getElem?_eq_getElem (show j < gs.length by omega)
  rcases h j _ g with e | e
  · left; rw [List.getD_eq_getElem?_getD, g, e]; rfl
  · right; rw [List.getD_eq_getElem?_getD, List.getD_eq_getElem?_getD, g, e]
theorem Less.self (due : List (Option Str)) : Less due due := fun _ _ h => .inr h
theorem Less.mem {due gs : List (Option Str)} (h : Less due gs) {z : Str} (hz : some z ∈ gs) : some z ∈ due := by
  obtain ⟨j, hj⟩ := List.mem_iff_getElem?.mp hz
  rcases h j _ hj with e | e
  · cases e
  · exact List.mem_of_getElem? e
theorem Less.snoc {due gs : List (Option Str)} (h : Less due gs) {x : Option Str} (hx : x = none ∨ due[gs.length]? = some x) : Less due (gs ++ [x]) := fun j y hj => by
  by_cases lt : j < gs.length
  · rw [List.getElem?_append_left lt] at hj
    exact h j y hj
  · rw [List.getElem?_append_right (by omega)] at hj
    have : j - gs.length = 0 := by
      have := (List.getElem?_eq_some_iff.mp hj).1
      simp at this
      omega
    rw [this] at hj
    obtain rfl := Option.some.inj hj
    have : j = gs.length := by omega
    rw [this]
    exact hx
/-- a word put at a cell -/
def putAt (gs : List (Option Str)) (k : Nat) (z : Str) : List (Option Str) := gs.take k ++ [some z] ++ gs.drop (k + 1)
theorem putAt_len {gs : List (Option Str)} {k : Nat} {z : Str} (h : k < gs.length) : (putAt gs k z).length = gs.length := by
  unfold putAt
  rw [List.length_append, List.length_append, List.length_take, List.length_drop, List.length_singleton]
  omega
theorem putAt_get {gs : List (Option Str)} {k : Nat} {z : Str} (h : k < gs.length) (j : Nat) : (putAt gs k z).getD j none = if j = k then some z else gs.getD j none := by
  have e : putAt gs k z = gs.set k (some z) := by
    unfold putAt
    rw [List.set_eq_take_append_cons_drop, if_pos h, List.append_assoc]
    rfl
  rw [e, List.getD_eq_getElem?_getD, List.getD_eq_getElem?_getD, List.getElem?_set]
  by_cases q : k = j
  · subst q
    rw [if_pos rfl, if_pos rfl, if_pos h]
    rfl
  · rw [if_neg q, if_neg fun x => q x.symm]
theorem putAt_mem {gs : List (Option Str)} {k : Nat} {z y : Str} (h : some y ∈ putAt gs k z) : y = z ∨ some y ∈ gs := by
  unfold putAt at h
  rcases List.mem_append.mp h with h | h
  · rcases List.mem_append.mp h with h | h
    · exact .inr (List.mem_of_mem_take h)
    · exact .inl (Option.some.inj (List.mem_singleton.mp h))
  · exact .inr (List.mem_of_mem_drop h)
theorem putAt_agree {due gs : List (Option Str)} {k : Nat} {z : Str} {d : Option Str} (h : Less due gs) (lt : k < gs.length) (hd : due[k]? = some d) : agree (putAt gs k z) due gs.length = decide (d = some z) := by
  have at_ : fits1 (putAt gs k z) due k = decide (d = some z) := by
    unfold fits1
    rw [putAt_get lt, if_pos rfl, List.getD_eq_getElem?_getD, hd]
    show (decide (some z = none) || decide (some z = d)) = _
    by_cases q : d = some z
    · simp [q]
    · have q' : ¬ some z = d := fun e => q e.symm
      simp [q, q']
  by_cases q : d = some z
  · rw [decide_eq_true q]
    refine agree_all fun j hj => ?_
    rw [putAt_get lt]
    by_cases e : j = k
    · rw [if_pos e, e, List.getD_eq_getElem?_getD, hd, q]
      exact .inr rfl
    · rw [if_neg e]
      have g := List.getElem?_eq_getElem hj
      rcases h j _ g with r | r
      · left; rw [List.getD_eq_getElem?_getD, g, r]; rfl
      · right; rw [List.getD_eq_getElem?_getD, List.getD_eq_getElem?_getD, g, r]
  · rw [decide_eq_false q] at at_ ⊢
    exact agree_no at_ lt
theorem open_less (due : List (Option Str)) (n : Nat) : Less due (List.replicate n none) := fun j x h => .inl (by
  rw [List.getElem?_replicate] at h
  split at h
  · exact (Option.some.inj h).symm
  · cases h)
theorem open_forms (n : Nat) : (List.replicate n (none : Option Str)).map formV = List.replicate n .non := by rw [List.map_replicate]; rfl
theorem part_lo {xs : List V} {k : Nat} (h : k < xs.length) : ¬ (HT.sIx xs.length 0 none = 0 ∧ HT.sIx xs.length xs.length (some (k : Int)) = xs.length) := fun w => by
  have := w.2
  rw [HT.sIx_nat] at this
  omega
theorem part_hi {xs : List V} {k : Nat} (h : k < xs.length) : ¬ (HT.sIx xs.length 0 (some ((k : Int) + 1)) = 0 ∧ HT.sIx xs.length xs.length none = xs.length) := fun w => by
  have := w.1
  rw [show ((k : Int) + 1) = ((k + 1 : Nat) : Int) by omega, HT.sIx_nat] at this
  omega
end Xci

namespace Xci
open PySem PySem.Spec PyProof.Rows L2 NdefX
/-! own exceptions whose __init__ says super().__init__(a text), and then fields -/
/-- what the written part says of such a class C: F is its __init__, made at fI; cc is the cell that holds C -/
structure XCls (P : Program) (K : PySem.W.Frag) (mg : Str → Option Value) (C fI cc : Addr) (F : NF) : Prop where
  ox : OexC K C
  lk : ∃ oc od osl kV doc pm an ct, K.lookup fI = some ⟨oc, od, .func (PySem.W.fnX F.name F.qual F.params F.body F.scope F.cl .none kV doc pm an (.ref F.c) ct), osl⟩
  cl : F.cl = [(("__class__" : Str), cc)]
  cd : PySem.W.codeIn K (.ref F.c) F.qual = true
  co : ∃ a b c vs file tf, K.lookup F.c = some ⟨a, b, .fields vs, c⟩ ∧ vs[2]? = some (.str file tf) ∧ ((P.main.file : Str) == file) = true
  ce : ∃ a b c, K.lookup cc = some ⟨a, b, .cell (some (.ref C)), c⟩
  mro : PySem.W.mroIn K C (.ref C) = some true
  sup : PySem.W.ks_superIn K C C "__init__" = some (some (.builtin "ValueError.__init__"))
  ve : PySem.W.subIn K (.ref C) (.type "ValueError") = some true
  op : PySem.W.nsIn K cStatics "thirdparty.any" = some none
  msu : mg "super" = none
  top : (P.main.scope.names.lookup ("super" : Str)).isSome = false
/-- what its text says: the names of the def -/
structure XTxt (F : NF) : Prop where
  su : F.scope.names.lookup ("super" : Str) = some .globalImplicit
  cl : F.scope.names.lookup ("__class__" : Str) = some .free
  se : F.scope.names.lookup ("self" : Str) = some .local
  kind : F.scope.kind = .function
  fst : ∃ ar, (F.params.posonlyargs ++ F.params.args).head? = some ar ∧ ar.arg = ("self" : Str)
theorem clsIn_of_ox {K : PySem.W.Frag} {C : Addr} (T : OexC K C) : ∃ cd, PySem.W.clsIn K C = some cd := by
  obtain ⟨nm, q, N, bs, bm, sn, sub, ab, col, dd, k0, k1, k2, k3, k5, hC, _⟩ := T.cls
  unfold PySem.W.clsIn
  rw [hC]
  exact ⟨_, rfl⟩
section
variable {CX : CXT} {P : Program} {w : World} {K : PySem.W.Frag} {mg : Str → Option Value} {base : Heap} {N : List Str} {F : NF} {fI C cc a : Addr} {A : Around} {outer : List Env} {s₀ : Shared} {H₀ : Hp} {E : XK}
variable {pins : List (Addr × Obj)} {σ : L2.St} {H : Hp} {s : Shared} {EE : Value → Shared → Prop}
/-- the built-in __init__, bound to the exception that is being made, called -/
theorem bound_init {X : Cx} {u : Addr} {ws : List Value} {A' : Around} {Q : Value → Shared → Prop} (T : OexC X.K C) (I : Inv X pins σ H s) (ea : H a = some (exo a C none)) (hl : ws.length ≤ sizeLine)
    (hu : s.heap.get? u = some (PySem.W.kxs_mw "ValueError.__init__" a)) (q : ∀ s', Inv X pins σ H s' → Q .none s') : wpAny (model X.prog X.w) A' (call (.ref u) ws) Q EE s := by
  obtain ⟨nm, qn, nsp, bs, bm, sn, sub, ab, col, dd, k0, k1, k2, k3, k5, hC, hbm⟩ := T.cls
  obtain ⟨t1, ho⟩ := exo_at I.hok ea
  have hCs := I.kIn _ _ hC
  obtain ⟨hp, g, d, t, os⟩ := s
  refine wpAny_call (codeAny_of_tree ?_)
  show wpAny _ A'.in1 (callAny (.ref u) ⟨ws, []⟩) _ _ _
  simp only [callAny]
  refine wpAny_bind (wpAny_load hu ?_)
  simp only [PySem.W.kxs_mw, show (Value.type "method-wrapper" == Value.type "method" || Value.type "method-wrapper" == Value.type "builtin_function_or_method" || Value.type "method-wrapper" == Value.type "method-wrapper") = true by decide, if_true]
  refine PySem.W.KFB.if_so (by decide) (wpAny_bind (PySem.W.check_bound_init F.excBase_ValueError.toExcCallFacts hCs ho rfl (wpAny_bind (wpAny_pure (wpAny_pure ?_)))))
  refine ⟨plainId_quiet F.excBase_ValueError.init.plain _, codeAny_builtin F.excBase_ValueError.initEntry ?_⟩
  refine PySem.W.exc_init_tree (cls := .ref C) (t0 := t1) (dv := none) (c2 := .none) (c3 := .none) (b4 := .bool false) ho hl fun h' k hx _ => ?_
  have J := I.write (t' := t) (x := a) (e := a) (o := exo a C none) (by rw [ea]; exact True.intro) (.inl rfl) k ⟨_, hx⟩ (exo_ok hx)
  have eu : upd H a (exo a C none) = H := funext fun b => by
    by_cases hb : b = a
    · subst hb; exact upd_same.trans ea.symm
    · exact upd_ne hb
  rw [eu] at J
  exact q _ J
/-- super().__init__(a text), the first statement of such a def: nothing of it is told -/
theorem super_step {p0 p1 p2 p3 p4 : Pos} {txt : Str} {j : Nat} {pc : Pos} {pl : Sem Bool} {Q : Flow → Shared → Prop} (XC : XCls P K mg C fI cc F) (XT : XTxt F)
    (I : Inv (ncx CX P w K mg base N F fI A outer s₀ H₀ E) pins σ H s) (h0 : N[0]? = some ("self" : Str)) (hσ : σ[0]? = some (some (.ref a))) (ea : H a = some (exo a C none))
    (q : ∀ s', Inv (ncx CX P w K mg base N F fI A outer s₀ H₀ E) pins σ H s' → Q .next s')
    (he : eval (.Call (.Attribute (.Call (.Name "super" p0) [] [] p1) "__init__" p2) [.Constant (.str txt) j pc] [] p3) (envF F fI s₀.heap.objs.size) = (do
      let o ← attributeBase (.Call (.Name "super" p0) [] [] p1) "__init__" (envF F fI s₀.heap.objs.size) (eval (.Call (.Name "super" p0) [] [] p1) (envF F fI s₀.heap.objs.size))
      standAt p2.atName
      let (g, l) ← holding [o] (getMethod o "__init__" pl)
      callWith p3 g l (backTo p3 (starEach [.Constant (.str txt) j pc] (envF F fI s₀.heap.objs.size))) [])) :
    _root_.PySem.wpAt (model P w) (A.deeper (envF F fI s₀.heap.objs.size)) (.func F.body (envF F fI s₀.heap.objs.size))
      (exec (.Expr (.Call (.Attribute (.Call (.Name "super" p0) [] [] p1) "__init__" p2) [.Constant (.str txt) j pc] [] p3) p4) (envF F fI s₀.heap.objs.size)) Q
      (ncx CX P w K mg base N F fI A outer s₀ H₀ E).xe s := by
  obtain ⟨m, hns, hl⟩ := I.loc
  obtain ⟨u, ru, hlook⟩ := hl 0 "self" (.ref a) h0 hσ (.inl XT.se)
  obtain rfl : u = Value.ref a := ru
  have hm : m "self" = some (.ref a) := by
    rcases hlook with ⟨_, z⟩ | ⟨z, _⟩
    · exact z
    · exfalso
      have e := XT.se
      rcases z with z | z
      · exact absurd (e.symm.trans z) (by decide)
      · exact absurd (e.symm.trans z) (by decide)
  obtain ⟨oc, od, osl, kV, doc, pm, an, ct, hf⟩ := XC.lk
  obtain ⟨c1, c2, vs, c3, file, tf, hco, hvs, hfile⟩ := XC.co
  obtain ⟨b1, b2, b3, hce⟩ := XC.ce
  obtain ⟨ar, har, har2⟩ := XT.fst
  obtain ⟨cdD, hcd⟩ := clsIn_of_ox XC.ox
  obtain ⟨t1, ho⟩ := exo_at I.hok ea
  have kin : K.In s.heap := I.kIn
  obtain ⟨oD, hD1, hD2⟩ : ∃ oD, s.heap.get? C = some oD ∧ oD.data = .cls cdD := by
    unfold PySem.W.clsIn at hcd
    split at hcd
    · next z =>
      cases hcd
      exact ⟨_, kin _ _ z, rfl⟩
    · cases hcd
  have isC : PySem.W.InstAt s.heap a ({ cls := .ref C, dict := none, data := .fields #[.ref t1, .none, .none, .none, .bool false, .none] } : Obj) C none := ⟨ho, rfl, rfl, trivial⟩
  obtain ⟨mb, blt1, blt2⟩ := I.mod.blt
  have glb : s.heap.Ns mainGlobals mg := I.mod.glob.keeps I.bk
  have bns : s.heap.Ns builtinsNs mb := blt1.keeps I.bk
  have bsu : mb "super" = some (.type "super") := (blt2 _ (by decide)).trans (by decide +kernel)
  have hi : interactive (envF F fI s₀.heap.objs.size) = false := by
    unfold interactive
    rw [show (envF F fI s₀.heap.objs.size).scope.kind = .function from XT.kind]
    rfl
  refine PySem.ks_wpAt_Expr_any (PySem.ks_wpAt_MethodCall ?_ he) hi
  refine PySem.ks_wpAt_super_base XT.su XT.cl rfl rfl (kin _ _ hf) rfl har rfl (kin _ _ hco) rfl hvs hfile XC.top ?_
  refine PySem.W.ks_loadName_global XT.kind XT.su (Calls.loadGlobal_builtin glb XC.msu bns bsu ⟨rfl, ?_⟩)
  refine wpAny_loadName_free (c := cc) XT.kind XT.cl (by show List.lookup _ F.cl = _; rw [XC.cl]; rfl) ⟨_, kin _ _ hce, rfl⟩ ?_
  refine wpAny_loadName_local XT.kind (by rw [har2]; exact XT.se) hns (by rw [har2]; exact hm) ?_
  obtain ⟨hp, g, d, t, os⟩ := s
  refine PySem.ks_wpAny_isType_cls hD1 hD2 ⟨rfl, ?_⟩
  refine PySem.ks_wpAny_call_super hD1 hD2 ho rfl (fun c e => ?_) (PySem.W.looks_mroIn kin XC.mro) (fun h' hso k => ?_)
  · cases e
  have I1 : Inv (ncx CX P w K mg base N F fI A outer s₀ H₀ E) pins σ H ⟨h', g, d, t, os⟩ := I.kept (t' := t) k
  have kin1 : K.In h' := kin.keeps k
  have hsup := XC.sup
  unfold PySem.W.ks_superIn at hsup
  rw [hcd] at hsup
  have isI : PySem.W.Looks (model P w) h' (isInstance (.ref a) (.type "ValueError")) true :=
    (PySem.W.InstAt.type (od := none) (h := h') ⟨k _ _ ho, rfl, rfl, trivial⟩).andThen (PySem.W.looks_subIn kin1 XC.ve)
  refine PySem.W.kxs_getMethod PySem.W.kxs_ValueError hso (PySem.W.looks_opaque kin1 XC.op) (l₀ := cdD.mro) ?_ rfl kin1 hsup isI (PySem.W.ks_ne kin isC hcd) (by decide) ?_
  · exact fun A' Q' E' s' z y => wpAny_bind (PySem.W.looks_clsIn kin1 hcd A' _ E' s' z (wpAny_pure y))
  have k2 : ∀ b o, h'.get? b = some o → (h'.push (PySem.W.kxs_mw "ValueError.__init__" a)).get? b = some o := fun b o z => Heap.get?_push_of_some _ z
  have I2 : Inv (ncx CX P w K mg base N F fI A outer s₀ H₀ E) pins σ H ⟨h'.push (PySem.W.kxs_mw "ValueError.__init__" a), g, d, t + 1, os⟩ := I1.kept (t' := t + 1) k2
  have hmw : (h'.push (PySem.W.kxs_mw "ValueError.__init__" a)).get? h'.objs.size = some (PySem.W.kxs_mw "ValueError.__init__" a) := Heap.get?_push_at rfl rfl
  show wpAny _ _ (callWith p3 (.ref h'.objs.size) [] (backTo p3 (starEach [.Constant (.str txt) j pc] _)) []) _ _ _
  have I3 : Inv (ncx CX P w K mg base N F fI A outer s₀ H₀ E) ((h'.objs.size, PySem.W.kxs_mw "ValueError.__init__" a) :: pins) σ H ⟨h'.push (PySem.W.kxs_mw "ValueError.__init__" a), g, d, t + 1, os⟩ := I2.pins_of fun p hp => by
    rcases List.mem_cons.mp hp with e | hp
    · subst e
      refine ⟨hmw, I1.hok.fresh (Nat.le_refl _), fun z => ?_, I1.nofs (Nat.le_refl _), fun v z => by cases z⟩
      have := I1.lt
      rw [← z] at this
      exact absurd this (Nat.lt_irrefl _)
    · exact I2.pin p (List.mem_append_right _ hp)
  refine PySem.W.kxs_callWith (i := "ValueError.__init__") (x := a) rfl (Calls.evalArgs_plain (thn ((pa_cons pe_str pa_nil).run p3 _ _ σ H (fun vs H1 => H1 = H ∧ vs.length = 1) I3 ⟨rfl, rfl⟩) fun us s1 ⟨vs', H1, J, r1, e1, e2⟩ => ?_))
  subst e1
  have hm1 := J.pin (h'.objs.size, PySem.W.kxs_mw "ValueError.__init__" a) (List.mem_append_right _ (List.mem_cons_self ..))
  refine ⟨hm1.1, ?_⟩
  have J' : Inv (ncx CX P w K mg base N F fI A outer s₀ H₀ E) pins σ H1 s1 := J.pins_of fun p hp => J.pin p (List.mem_append_right _ (List.mem_cons_of_mem _ hp))
  refine bound_init XC.ox J' ea ?_ hm1.1 q
  have := r1.length
  show ([] ++ us).length ≤ sizeLine
  rw [List.nil_append, ← this, e2]
  decide
/-- such an __init__ by what stands behind its first statement -/
theorem init_fn {ps : List Str} {k : Nat} {sp : Sp} {p0 p1 p2 p3 p4 : Pos} {txt : Str} {j : Nat} {pc : Pos} {pl : Addr → Sem Bool} {rest : List Stmt} (XC : XCls P K mg C fI cc F) (XT : XTxt F) (S : NScope N ps ["__class__"] F.scope) (h0 : N[0]? = some ("self" : Str))
    (hb : F.body = .Expr (.Call (.Attribute (.Call (.Name "super" p0) [] [] p1) "__init__" p2) [.Constant (.str txt) j pc] [] p3) p4 :: rest)
    (hbind : ∀ (kV doc pm ct : Value) (an : Option Addr) (us : List Value), us.length = ps.length → bindArgs (PySem.W.fnX F.name F.qual F.params F.body F.scope F.cl .none kV doc pm an (.ref F.c) ct) ⟨us, []⟩ = pure (ps.zip us))
    (he : ∀ L : Addr, eval (.Call (.Attribute (.Call (.Name "super" p0) [] [] p1) "__init__" p2) [.Constant (.str txt) j pc] [] p3) (envF F fI L) = (do
      let o ← attributeBase (.Call (.Name "super" p0) [] [] p1) "__init__" (envF F fI L) (eval (.Call (.Name "super" p0) [] [] p1) (envF F fI L))
      standAt p2.atName
      let (g, l) ← holding [o] (getMethod o "__init__" (pl L))
      callWith p3 g l (backTo p3 (starEach [.Constant (.str txt) j pc] (envF F fI L))) []))
    (hsp : ∀ vs H Q E, sp vs H Q E → vs.length = ps.length ∧ ∃ a ws, vs = V.ref a :: ws ∧ H a = some (exo a C none))
    (hrest : ∀ (A : Around) (outer : List Env) (s : Shared) (H : Hp) (vs : List V) (Q : VK) (E : XK), Room k (A.deeper (envF F fI s.heap.objs.size)) → sp vs H Q E →
      ∃ t, PSs (ncx CX P w K mg base N F fI A outer s H E) rest t ∧ t { nx := fun _ H' => Q .non H', rt := Q } (startF N vs [none]) H) :
    ∃ fd, FnOk P w K mg base CX (k + 1) fI fd ps sp ∧ Binds K fd ps [] := by
  obtain ⟨oc, od, osl, kV, doc, pm, an, ct, hf⟩ := XC.lk
  obtain ⟨b1, b2, b3, hce⟩ := XC.ce
  refine ⟨_, ⟨fun vs H Q E q => (hsp vs H Q E q).1, fun A outer s H args us vs Q E hr e0 hbi r q => ?_⟩, .all (hbind kV doc pm ct an)⟩
  obtain ⟨hl, a, ws, ev, ea⟩ := hsp vs H Q E q
  have kb : ∀ b o, base.get? b = some o → s.heap.get? b = some o := fun b o z => (e0.bs b o z).1
  have kin : K.In s.heap := e0.mod.kin.keeps kb
  have hcc : List.lookup ("__class__" : Str) F.cl = some cc := by rw [XC.cl]; rfl
  have only : ∀ (y : Str) (c : Addr), List.lookup y F.cl = some c → y = "__class__" ∧ c = cc := fun y c z => by
    rw [XC.cl] at z
    by_cases e : y = "__class__"
    · subst e
      cases z
      exact ⟨rfl, rfl⟩
    · have e' : (y == ("__class__" : Str)) = false := by simpa using e
      simp [List.lookup, e'] at z
  have cells : CellsAt F.cl ["__class__"] [none] s.heap H := ⟨rfl, fun y c z => by
      obtain ⟨_, rfl⟩ := only y c z
      exact ⟨(e0.bs _ _ (e0.mod.kin _ _ hce)).2, _, _, kin _ _ hce, rfl⟩, fun x y c z1 z2 => by rw [(only x c z1).1, (only y c z2).1], fun i y z => by
      cases i with
      | zero =>
        cases z
        exact ⟨cc, hcc, fun v z => by cases z⟩
      | succ i => cases z⟩
  refine PySem.ks_codeAny_call_defAt (body := F.body) (binds := ps.zip us) hr.depth (kin _ _ hf) rfl (e0.mod.nolimit.keeps kb) (PySem.W.codeRec_of kin XC.cd) rfl hbi S.nocell (fun ⟨n, _⟩ hy => S.par n (List.of_mem_zip hy).1) (fun h₁ hns hk₁ => ?_) S.co S.gen S.kind
  have I : Inv (ncx CX P w K mg base N F fI A outer s H E) [] (startF N vs [none]) H { s with heap := h₁, toks := s.toks + (ps.zip us).length } := inv_startN S hr.hd e0 hl r cells hns hk₁
  have hst : (startF N vs [none])[0]? = some (some (.ref a)) := by rw [ev]; rfl
  obtain ⟨t, ht, hq⟩ := hrest A outer s H vs Q E (hr.deeper _) q
  have fin : ∀ {s' : Shared} {σ' : L2.St} {H' : Hp} {v : V} {u : Value}, Inv (ncx CX P w K mg base N F fI A outer s H E) [] σ' H' s' → L2.RelV v u → Q v H' → CE outer P w H s Q u s' :=
    fun {s' σ' H' v u} J rv q => ⟨v, H', J.os, J.bare, J.base, J.hok, rv, q⟩
  show PySem.wpAt _ _ (.func F.body (envF F fI s.heap.objs.size)) (execs F.body (envF F fI s.heap.objs.size)) _ _ _
  rw [show execs F.body (envF F fI s.heap.objs.size) = execs (_ :: rest) (envF F fI s.heap.objs.size) from congrArg (execs · _) hb]
  refine PySem.ks_wpAt_execs_cons (super_step XC XT I h0 hst ea (fun s' J => ?_) (he _))
  show PySem.wpAt _ _ _ (execs rest _) _ _ _
  refine wpAt_of_wpAny (wpAny_mono (ht.run [] _ _ _ _ J hq) (fun fl s'' hs => ?_) fun e s'' hs => hs)
  cases fl with
  | ret u =>
    obtain ⟨v, σ', H', J', rv, q'⟩ := hs
    exact fin J' rv q'
  | next =>
    obtain ⟨σ', H', J', q'⟩ := hs
    exact fin (v := V.non) (u := Value.none) J' rfl q'
  | brk =>
    obtain ⟨_, _, _, q'⟩ := hs
    exact False.elim q'
  | cont =>
    obtain ⟨_, _, _, q'⟩ := hs
    exact False.elim q'
end
/-! ### the promises of the two kinds of such an __init__, and of more fields -/
def spX0 (C : Addr) : Sp := fun vs H Q _ => ∃ a, vs = [.ref a] ∧ H a = some (exo a C none) ∧ Q .non H
def spX1 (C : Addr) (f : Str) : Sp := fun vs H Q _ => ∃ a v, vs = [.ref a, v] ∧ H a = some (exo a C none) ∧ ∀ dx, H dx = none → dx ≠ a → Q .non (upd (upd H dx (exd dx [(f, v)])) a (exo a C (some dx)))
def spX2 (C : Addr) (f g : Str) : Sp := fun vs H Q _ => ∃ a v u, vs = [.ref a, v, u] ∧ H a = some (exo a C none) ∧
  ∀ dx, H dx = none → dx ≠ a → Q .non (upd (upd (upd H dx (exd dx [(f, v)])) a (exo a C (some dx))) dx (exd dx [(g, u), (f, v)]))
/-! ### C() of such a class without fields -/
section
variable {X : Cx} {pins : List (Addr × Obj)} {σ : L2.St} {H : Hp} {Q : XK} {e C : Addr}
/-- the exception is let go -/
theorem mk_bare {hp hp2 h2 : Heap} {g1 g2 : Array GenState} {d1 d2 : Drawn} {t1 t2 : Nat} {os1 os2 : OsState} (T : Raises X (.ref C)) (I : Inv X pins σ H ⟨hp, g1, d1, t1, os1⟩) (he : hp.objs.size ≤ e)
    (kk : ∀ b o, hp.get? b = some o → hp2.get? b = some o) (un : Un (frs X.stack) [] (upd H e (exo e C none)) (upd H e (exo e C none)) hp2 h2) (hok : HOk X.prog X.w (upd H e (exo e C none)) h2) (ho : os2 = os1) (hb : AllBare g2)
    (q : Q (.ref C) none H) : MkP X pins σ Q (.ref e) ⟨h2, g2, d2, t2, os2⟩ := by
  obtain ⟨t0, hoe⟩ := exo_at hok upd_same
  have hn : H e = none := I.hok.fresh he
  obtain ⟨G, gin, gout⟩ := restrict h2 fun b => decide (b ≠ e)
  have at_ : ∀ b, b ≠ e → G.get? b = h2.get? b := fun b z => gin b (decide_eq_true z)
  have off : G.get? e = none := gout e (by simp)
  have old : ∀ {b : Addr} {o : Obj}, hp.get? b = some o → b ≠ e := fun {b o} z => Nat.ne_of_lt (Nat.lt_of_lt_of_le (Heap.lt_size z) he)
  have trk : ∀ {b : Addr} {o : HO}, H b = some o → b ≠ e := fun {b o} z y => by rw [y, hn] at z; cases z
  have free_ : ∀ {b : Addr} {o : Obj}, hp.get? b = some o → H b = none → upd H e (exo e C none) b = none := fun {b o} z n => (upd_ne (old z)).trans n
  have U : Un (frs X.stack) [] H H hp G := {
    keep := fun b o z n h1 h2 => (at_ b (old z)).trans (un.keep b o (kk b o z) (free_ z n) h1 h2)
    slot := fun b o z n h1 h2 => by
      obtain ⟨sl, y⟩ := un.slot b o (kk b o z) (free_ z n) h1 h2
      exact ⟨sl, (at_ b (old z)).trans y⟩
    free := fun b o z n h1 => n
    there := fun b o z h1 => by
      obtain ⟨o', y⟩ := un.there b o (kk b o z) h1
      exact ⟨o', (at_ b (old z)).trans y⟩
    tups := fun b xs z => z
    frzs := fun b o v z => z
    tbls := fun b ps z => ⟨#[], by rw [z]; simp⟩ }
  have hok' : HOk X.prog X.w H G := fun b o z => by
    have hbe := trk z
    refine (hok b o ((upd_ne hbe).trans z)).stay (fun c v hc y => ?_) (fun c hc => ?_) (fun c xs hc => ?_)
    · have hce : c ≠ e := by
        rcases hc with hc | hc
        · rw [hc]; exact hbe
        · exact at_ne upd_same hc exo_own
      exact (at_ c hce).trans y
    · rwa [upd_ne (at_ne upd_same hc exo_own)] at hc
    · rwa [upd_ne (at_ne upd_same hc exo_tup)] at hc
  have J : Inv X pins σ H ⟨G, g2, d2, t2, os2⟩ := I.call' (ch := []) ho U hok' hb (fun b z => absurd z (by simp))
  refine ⟨e, _, _, ⟨G, g2, d2, t2, os2⟩, _, .ref C, none, rfl, J, fun b o z => ?_, off, hoe, ⟨rfl, rfl⟩, rfl, rfl, hn, rfl, hb, T, q⟩
  by_cases hbe : b = e
  · rw [hbe, off] at z; cases z
  · exact (at_ b hbe).symm.trans z
theorem pmk_x0 {CX : CXT} {x : Str} {fI : Addr} {k : Nat} {fd : FuncData} {p pos : Pos} (T : OexC X.K C) (iC : PySem.W.findIn X.K (.ref C) "__init__" = some (some (.ref fI))) (tI : PySem.W.typeIn X.K (.ref fI) = some (.type "function"))
    (F1 : FnOk X.prog X.w X.K X.mg X.base CX k fI fd ["self"] (spX0 C)) (hr : Room (k + 1) X.A) (hb : Binds X.K fd ["self"] []) (hx : Passes CX X (fun _ _ _ => False)) (hg : Gl X x) (hm : X.mg x = some (.ref C))
    (hdb : (x == ("__debug__" : Str)) = false := by decide) : PMk X (.Call (.Name x p) [] [] pos) (fun _ H Q => Q (.ref C) none H) := by
  intro pins s σ H Q I h
  obtain ⟨nm, q, N, bs, bm, sn, sub, ab, col, dd, k0, k1, k2, k3, k5, hC, hbm⟩ := T.cls
  refine wpAny_Call_Name_kw (ld_glob I hg hm ?_ hdb)
  refine PySem.W.callWith_K0 I.kIn T.kC ?_
  obtain ⟨hp, g, dr, tk, os⟩ := s
  have hsz : hp.objs.size ≤ hp.objs.size + 1 := Nat.le_succ _
  have kk : ∀ b o, hp.get? b = some o → ((hp.push (PySem.W.kdv_tup [])).push (PySem.HandSPX.excO C hp.objs.size)).get? b = some o := fun b o z => Heap.get?_push_of_some _ (Heap.get?_push_of_some _ z)
  have hget : ((hp.push (PySem.W.kdv_tup [])).push (PySem.HandSPX.excO C hp.objs.size)).get? (hp.objs.size + 1) = some (PySem.HandSPX.excO C hp.objs.size) := by heap_get
  have I2 := I.laid (t' := tk) (a := hp.objs.size + 1) (o := exo (hp.objs.size + 1) C none) kk hsz (exo_ok hget)
  refine wpAny_call (PySem.HandSPX.call_own F.excBase_ValueError (fun Y => PySem.HandSPX.refsVE_contains Y bm hbm) (I.kIn _ _ hC) (PySem.W.looks_findIn I.kIn iC) (fun self => PySem.W.bind_fn I.kIn self tI) (Nat.zero_le _)
    (codeAny_mono (F1.run _ X.stack _ _ ⟨[Value.ref (hp.objs.size + 1)], []⟩ [Value.ref (hp.objs.size + 1)] [V.ref (hp.objs.size + 1)] (fun v H2 => v = .non ∧ H2 = upd H (hp.objs.size + 1) (exo (hp.objs.size + 1) C none)) (fun _ _ _ => False)
      (hr.make C [] []) (I2.env0.make C [] []) (hb _ [Value.ref (hp.objs.size + 1)] I2.kIn rfl) (.cons rfl .nil) ⟨_, rfl, upd_same, rfl, rfl⟩) fun r s' hq' => ?_))
  cases r with
  | error er => exact hx pins σ _ _ er s' I2 hq'
  | ok fl =>
    cases fl with
    | ret u =>
      obtain ⟨v, H2, os2, bare2, un2, hok2, rv, ev, eH⟩ := hq'
      subst ev eH
      obtain ⟨h2, g2, d2, t2, os'⟩ := s'
      exact ⟨rv, mk_bare (raises_own T.exC T.tyC) I hsz kk un2 hok2 os2 bare2 h⟩
    | next => exact False.elim hq'
    | brk => exact False.elim hq'
    | cont => exact False.elim hq'
end
end Xci

namespace Xci
open PySem PySem.Spec PyProof.Rows L2
/-! data of any kind, dicts with texts or numbers for keys among them; none of its objects is one of those that are kept out -/
abbrev Out := Addr → Prop
/-- all but what is kept out stands as before -/
def FrO (N : Out) (H H' : Hp) : Prop := ∀ b o, H b = some o → ¬ N b → H' b = some o
theorem FrO.same {N : Out} {H H' : Hp} (s : Same H H') : FrO N H H' := fun b o e _ => s b o e
theorem FrO.trans {N : Out} {H H1 H2 : Hp} (f : FrO N H H1) (g : FrO N H1 H2) : FrO N H H2 := fun b o e n => g b o (f b o e n) n
theorem FrO.fr {a : Addr} {H H' : Hp} (f : Fr a H H') : FrO (· = a) H H' := fun b o e n => f b o e n
def keyD : Key → PyData
  | .inl i => .int i
  | .inr x => .str x
mutual
inductive Dt (a : Out) (H : Hp) : V → PyData → Prop
  | non : Dt a H .non .none
  | bl (b : Bool) : Dt a H (.bl b) (.bool b)
  | int (i : Int) : Dt a H (.int i) (.int i)
  | str (x : Str) : Dt a H (.str x) (.str x)
  | lst {p : Addr} {xs : List V} {ds : List PyData} : ¬ a p → H p = some (.lst xs) → DtAll a H xs ds → Dt a H (.ref p) (.list ds)
  | tup {p : Addr} {xs : List V} {ds : List PyData} : ¬ a p → H p = some (.tup xs) → DtAll a H xs ds → Dt a H (.ref p) (.tuple ds)
  | dic {p : Addr} {kvs : List (Key × V)} {ds : List PyData} : ¬ a p → H p = some (.dK kvs) → DtAll a H (kvs.map (·.2)) ds → Dt a H (.ref p) (.dict ((kvs.map fun q => keyD q.1).zip ds))
inductive DtAll (a : Out) (H : Hp) : List V → List PyData → Prop
  | nil : DtAll a H [] []
  | cons {v : V} {vs : List V} {d : PyData} {ds : List PyData} : Dt a H v d → DtAll a H vs ds → DtAll a H (v :: vs) (d :: ds)
end
mutual
theorem Dt.fr {a : Out} {H H' : Hp} (f : FrO a H H') : ∀ {v : V} {d : PyData}, Dt a H v d → Dt a H' v d
  | _, _, .non => .non
  | _, _, .bl b => .bl b
  | _, _, .int i => .int i
  | _, _, .str x => .str x
  | _, _, .lst n h r => .lst n (f _ _ h n) (DtAll.fr f r)
  | _, _, .tup n h r => .tup n (f _ _ h n) (DtAll.fr f r)
  | _, _, .dic n h r => .dic n (f _ _ h n) (DtAll.fr f r)
theorem DtAll.fr {a : Out} {H H' : Hp} (f : FrO a H H') : ∀ {vs : List V} {ds : List PyData}, DtAll a H vs ds → DtAll a H' vs ds
  | _, _, .nil => .nil
  | _, _, .cons r rs => .cons (Dt.fr f r) (DtAll.fr f rs)
end
mutual
theorem Dt.less {a b : Out} {H : Hp} (l : ∀ p, b p → a p) : ∀ {v : V} {d : PyData}, Dt a H v d → Dt b H v d
  | _, _, .non => .non
  | _, _, .bl x => .bl x
  | _, _, .int i => .int i
  | _, _, .str x => .str x
  | _, _, .lst n h r => .lst (fun z => n (l _ z)) h (DtAll.less l r)
  | _, _, .tup n h r => .tup (fun z => n (l _ z)) h (DtAll.less l r)
  | _, _, .dic n h r => .dic (fun z => n (l _ z)) h (DtAll.less l r)
theorem DtAll.less {a b : Out} {H : Hp} (l : ∀ p, b p → a p) : ∀ {vs : List V} {ds : List PyData}, DtAll a H vs ds → DtAll b H vs ds
  | _, _, .nil => .nil
  | _, _, .cons r rs => .cons (Dt.less l r) (DtAll.less l rs)
end
theorem DtAll.len {a : Out} {H : Hp} : ∀ {vs : List V} {ds : List PyData}, DtAll a H vs ds → vs.length = ds.length
  | _, _, .nil => rfl
  | _, _, .cons _ rs => congrArg (· + 1) (DtAll.len rs)
theorem DtAll.get {a : Out} {H : Hp} : ∀ {vs : List V} {ds : List PyData} {i : Nat} {v : V}, DtAll a H vs ds → vs[i]? = some v → ∃ d, ds[i]? = some d ∧ Dt a H v d
  | _, _, _, _, .nil, e => by simp at e
  | _, _, 0, _, .cons r _, e => by simp at e; subst e; exact ⟨_, rfl, r⟩
  | _, _, i + 1, _, .cons _ rs, e => by
    obtain ⟨d, h1, h2⟩ := DtAll.get rs (by simpa using e)
    exact ⟨d, by simpa using h1, h2⟩
theorem DtAll.append {a : Out} {H : Hp} : ∀ {vs us : List V} {ds es : List PyData}, DtAll a H vs ds → DtAll a H us es → DtAll a H (vs ++ us) (ds ++ es)
  | _, _, _, _, .nil, h => h
  | _, _, _, _, .cons r rs, h => .cons r (DtAll.append rs h)
theorem DtAll.cut {a : Out} {H : Hp} : ∀ {vs : List V} {ds : List PyData} (n : Nat), DtAll a H vs ds → DtAll a H (vs.take n) (ds.take n) ∧ DtAll a H (vs.drop n) (ds.drop n)
  | _, _, 0, h => ⟨by simp only [List.take_zero]; exact .nil, h⟩
  | _, _, n + 1, .nil => ⟨by simp only [List.take_nil]; exact .nil, by simp only [List.drop_nil]; exact .nil⟩
  | _, _, n + 1, .cons r rs => ⟨by simp only [List.take_succ_cons]; exact .cons r (DtAll.cut n rs).1, by simp only [List.drop_succ_cons]; exact (DtAll.cut n rs).2⟩
/-! ### what stands in memory -/
section
variable {X : Cx} {pins : List (Addr × Obj)} {σ : L2.St} {H : Hp} {s : Shared}
theorem tracked_not_sys (hS : ∃ o, X.base.get? sysModules = some o) (I : Inv X pins σ H s) {b : Addr} {o : HO} (h : H b = some o) : b ≠ sysModules := fun e => by
  obtain ⟨ob, q⟩ := hS
  have := (I.bs _ _ q).2
  rw [← e, h] at this
  cases this
theorem not_app {c : Addr} {as bs : List Addr} (h1 : c ∉ as) (h2 : c ∉ bs) : c ∉ as ++ bs := fun z => (List.mem_append.mp z).elim h1 h2
theorem keys_read {P : Program} {w : World} {h : Heap} : ∀ {kvs : List (Key × V)} {us : List (Key × Value)} {es : List DictEntry}, KV kvs us → PySem.Pairs (mixKind P w) es us →
    ReadsAll h (es.map (·.key)) (kvs.map fun q => keyD q.1) [] ∧ Vals (kvs.map (·.2)) (es.map (·.val))
  | _, _, _, .nil, .nil => ⟨.nil, .nil⟩
  | (k, v) :: _, (k', v') :: _, e :: _, .cons ⟨e1, e2⟩ r, .cons h1 h2 r' => by
    dsimp only at e1 e2 h1 h2
    subst e1
    obtain ⟨q1, q2⟩ := keys_read r r'
    refine ⟨ReadsAll.cons (as := []) ?_ q1, .cons (show L2.RelV v e.val by rw [h2]; exact e2) q2⟩
    have z : keyIs k e.key = true := h1
    cases k with
    | inl i =>
      obtain ⟨t, y⟩ : ∃ t, e.key = .int i t := by
        have z' : Value.isInt i e.key = true := z
        unfold Value.isInt at z'
        split at z' <;> simp_all
      show Reads h e.key (.int i) []
      rw [y]
      exact Reads.int i t
    | inr x =>
      obtain ⟨t, y⟩ : ∃ t, e.key = .str x t := by
        have z' : Value.isStrOf x e.key = true := z
        unfold Value.isStrOf at z'
        split at z' <;> simp_all
      show Reads h e.key (.str x) []
      rw [y]
      exact Reads.str x t
mutual
theorem Dt.reads (hS : ∃ o, X.base.get? sysModules = some o) (I : Inv X pins σ H s) {a : Out} : ∀ {v : V} {d : PyData} {u : Value}, Dt a H v d → L2.RelV v u → ∃ as, Reads s.heap u d as ∧ sysModules ∉ as
  | _, _, _, .non, r => by
    cases r
    exact ⟨[], Reads.none, by simp⟩
  | _, _, _, .bl b, r => by
    cases r
    exact ⟨[], Reads.bool b, by simp⟩
  | _, _, _, .int i, r => by
    obtain ⟨t, rfl⟩ := r
    exact ⟨[], Reads.int i t, by simp⟩
  | _, _, _, .str x, r => by
    obtain ⟨t, rfl⟩ := r
    exact ⟨[], Reads.str x t, by simp⟩
  | _, _, _, .lst (p := p) n h rs, r => by
    cases r
    obtain ⟨_, its, nn, rv, ho⟩ := I.hok _ _ h
    obtain ⟨as, hr, hn⟩ := DtAll.reads hS I rs rv
    exact ⟨_, Reads.list ho rfl rfl hr, fun z => (List.mem_cons.mp z).elim (fun z => tracked_not_sys hS I h z.symm) hn⟩
  | _, _, _, .tup n h rs, r => by
    cases r
    obtain ⟨_, its, rv, o, ho, hc, nn, hd⟩ := I.hok _ _ h
    obtain ⟨as, hr, hn⟩ := DtAll.reads hS I rs rv
    exact ⟨_, Reads.tuple ho hc hd hr, hn⟩
  | _, _, _, .dic (p := p) (kvs := kvs) (ds := ds) n h rs, r => by
    cases r
    obtain ⟨_, _, us, hkv, o, es, ep, ho, hx, hd, _, hp, _⟩ := I.hok _ _ h
    obtain ⟨q1, q2⟩ := keys_read (h := s.heap) hkv hp
    obtain ⟨as, hr, hn⟩ := DtAll.reads hS I rs q2
    have hl : (kvs.map fun q => keyD q.1).length = ds.length := by rw [← DtAll.len rs, List.length_map, List.length_map]
    refine ⟨_, Reads.dict ho hx.1 hd (by rw [List.map_fst_zip (by omega)]; exact q1) (by rw [List.map_snd_zip (by omega)]; exact hr), fun z => ?_⟩
    rcases List.mem_append.mp z with z | z
    · rcases List.mem_cons.mp z with z | z
      · exact tracked_not_sys hS I h z.symm
      · cases z
    · exact hn z
theorem DtAll.reads (hS : ∃ o, X.base.get? sysModules = some o) (I : Inv X pins σ H s) {a : Out} : ∀ {vs : List V} {ds : List PyData} {us : List Value}, DtAll a H vs ds → Vals vs us → ∃ as, ReadsAll s.heap us ds as ∧ sysModules ∉ as
  | _, _, _, .nil, .nil => ⟨[], .nil, by simp⟩
  | _, _, _, .cons h hs, .cons r rs => by
    obtain ⟨as, q1, n1⟩ := Dt.reads hS I h r
    obtain ⟨bs, q2, n2⟩ := DtAll.reads hS I hs rs
    exact ⟨_, .cons q1 q2, not_app n1 n2⟩
end
end
/-! ### repr -/
/-- short data: its text fits -/
structure Fine (n k : Nat) (d : PyData) : Prop where
  sh : d.showable = true
  lv : d.leavesShort 40 = true
  bk : d.bulk ≤ n
  dp : d.depth ≤ k
theorem Fine.fits {n k : Nat} {d : PyData} (f : Fine n k d) (h : n ≤ 390000) : d.shown.length ≤ sizeLine := by
  have e := PyData.shown_le_bulk 40 (by decide) d f.lv
  have h2 : 42 * d.bulk ≤ 42 * 390000 := Nat.mul_le_mul_left _ (Nat.le_trans f.bk h)
  rw [sizeLine_eq]
  omega
def rRep : List V → Hp → VK → Prop := fun xs H Q => ∃ (a : Out) (p : Addr) (d : PyData), xs = [.ref p] ∧ Dt a H (.ref p) d ∧ Fine 390000 60 d ∧ Q (.str d.shown) H
theorem call_rep {X : Cx} (hS : ∃ o, X.base.get? sysModules = some o) (hg : X.A.guards = some []) (hu : X.A.units + 64 < cLine) : CallR X (.builtin "repr") rRep := by
  intro pins s σ H xs us Q I rv h
  obtain ⟨a, p, d, rfl, hd, hf, q⟩ := h
  cases rv with
  | cons r rs =>
    cases rs
    cases r
    obtain ⟨as, hr, hn⟩ := Dt.reads hS I hd rfl
    have := hf.dp
    exact repr_of_reads' hr hf.sh (fun _ => hn) hg (by omega) (fun _ _ e => e) (fun h' u tk hk => ⟨.str d.shown, H, I.kept (t' := tk) hk, ⟨u, rfl⟩, q⟩) (hf.fits (Nat.le_refl _))
end Xci

namespace Xci
open PySem PySem.Spec PyProof.Rows L2
/-! C(..) whose __init__ may raise, told at the caller's slots -/
def tMakeS (C : Addr) (sp : Sp) (E : L2.St → XK) (t : TA) : TE := fun σ H Q => t σ H fun vs H1 => ∀ x dx, H1 x = none → H1 dx = none → dx ≠ x → sp (.ref x :: vs) (upd (upd H1 dx (.own x)) x (.ins C dx [])) (fun v H2 => v = .non ∧ Q (.ref x) H2) (E σ)
section
variable {X : Cx} {CX : CXT} {k : Nat} {f C : Addr} {fd : FuncData} {ps : List Str} {sp : Sp} {E : L2.St → XK} {x : Str} {p pos : Pos} {e : Expr} {es : List Expr} {t : TA}
theorem pe_makeS (M : L2.Mk X.K C f) (F : FnOk X.prog X.w X.K X.mg X.base CX k f fd ps sp) (hr : Room (k + 1) X.A) (hg : Gl X x) (hm : X.mg x = some (.ref C)) (hb : Binds X.K fd ps []) (hx : ∀ σ, PassesAt CX X σ (E σ)) (ha : PA X (e :: es) t)
    (hdb : (x == ("__debug__" : Str)) = false := by decide) (he : starEach (e :: es) X.env = (false, eval e X.env) :: starEach es X.env := by rfl) (hpl : (backTo pos (starEach es X.env)).any (·.1) = false := by rfl) :
    PE X (.Call (.Name x p) (e :: es) [] pos) (tMakeS C sp E t) := by
  refine ⟨fun pins s σ H Q I h => wpAny_Call_Name_kw (ld_glob I hg hm (PySem.W.callWith_K (h₀ := X.base) I.ok.mod.kin M.kp (thn (ha.run pos pins s σ H _ I h) fun us s1 ⟨vs, H1, I1, r, q⟩ => ⟨I1.kIn, ?_⟩) he hpl) hdb)⟩
  show wpAny _ _ (call (.ref C) us) _ _ _
  have new1 : H1 (s1.heap.objs.size + 1) = none := I1.hok.fresh (Nat.le_succ _)
  have new0 : H1 s1.heap.objs.size = none := I1.hok.fresh (Nat.le_refl _)
  have told := q _ _ new1 new0 (Nat.ne_of_lt (Nat.lt_succ_self _))
  have J := Inv.made (C := C) I1
  have rv : Vals (V.ref (s1.heap.objs.size + 1) :: vs) (Value.ref (s1.heap.objs.size + 1) :: us) := .cons rfl r
  have ar : (Value.ref (s1.heap.objs.size + 1) :: us).length = ps.length := by rw [← rv.length]; exact F.len _ _ _ _ told
  have bnd := hb _ (Value.ref (s1.heap.objs.size + 1) :: us) J.kIn (by rw [List.append_nil]; exact ar)
  rw [List.append_nil] at bnd
  refine wpAny_call (make_map (f := f) I1.kIn M.makes M.init (beq_iff_eq.mp M.fn) (codeAny_mono (F.run _ X.stack _ _ ⟨Value.ref (s1.heap.objs.size + 1) :: us, []⟩ _ _ _ (E σ) (hr.make C us []) (J.env0.make C us []) bnd rv told) fun r' s' z => ?_))
  match r', z with
  | .error er, z => exact hx σ pins _ _ er s' J z
  | .ok (.ret u), z =>
    obtain ⟨v, H', J', rv', ev, y⟩ := J.after z
    subst ev
    exact ⟨rv', V.ref (s1.heap.objs.size + 1), H', J', rfl, y⟩
  | .ok .next, z => exact False.elim z
  | .ok .brk, z => exact False.elim z
  | .ok .cont, z => exact False.elim z
end
/-! an error class of the program, as those who raise it see it -/
structure ErrC (P : Program) (w : World) (K : PySem.W.Frag) (mg : Str → Option Value) (base : Heap) (nm : Str) (C : Addr) (ps : List Str) (sp : Sp) : Prop where
  ex : ∃ (fI : Addr) (fd : FuncData), PySem.W.findIn K (.ref C) "__init__" = some (some (.ref fI)) ∧ PySem.W.typeIn K (.ref fI) = some (.type "function") ∧ FnOk P w K mg base CX0 1 fI fd ps sp ∧ Binds K fd ps []
  ox : OexC K C
  at_ : mg nm = some (.ref C)
section
variable {X : Cx} {C : Addr} {nm f g : Str} {e : Expr} {es : List Expr} {ta : TA} {p pos : Pos}
theorem pmk_e0 (H : ErrC X.prog X.w X.K X.mg X.base nm C ["self"] (spX0 C)) (hr : Room 2 X.A) (hg : Gl X nm) (hdb : (nm == ("__debug__" : Str)) = false := by decide) : PMk X (.Call (.Name nm p) [] [] pos) (fun _ H Q => Q (.ref C) none H) := by
  obtain ⟨fI, fd, h1, h2, F1, hb⟩ := H.ex
  exact pmk_x0 H.ox h1 h2 F1 hr hb pass0 hg H.at_ hdb
/-- C(e, ..): an error with fields -/
theorem pmk_en {ps : List Str} {sp : Sp} (H : ErrC X.prog X.w X.K X.mg X.base nm C ps sp) (hr : Room 2 X.A) (hg : Gl X nm) (ha : PA X (e :: es) ta) (hdb : (nm == ("__debug__" : Str)) = false := by decide)
    (hs : starEach (e :: es) X.env = (false, eval e X.env) :: starEach es X.env := by rfl) (hpl : (backTo pos (starEach es X.env)).any (·.1) = false := by rfl) :
    PMk X (.Call (.Name nm p) (e :: es) [] pos) (tMkO C sp [] ta) := by
  obtain ⟨fI, fd, h1, h2, F1, hb⟩ := H.ex
  exact pmk_oex H.ox h1 h2 F1 hr hb (dvs := []) .nil pass0 hg H.at_ ha hdb hs hpl
/-- .. what it asks, of one field -/
theorem x1_read {H1 : Hp} {v : V} {Q : XK} (q : ∀ d H2, H2 d = some (.xd [(f, v)]) → H1 d = none → Same H1 H2 → Q (.ref C) (some d) H2) :
    ([v] : List V).length ≤ 1000 ∧ ∀ a, H1 a = none → spX1 C f (.ref a :: ([v] ++ [])) (upd H1 a (exo a C none))
      (fun v H2 => v = .non ∧ ∃ (d : Addr) (fs : List (Str × V)), H2 a = some (exo a C (some d)) ∧ H2 d = some (exd d fs) ∧ H1 d = none ∧ Q (.ref C) (some d) (upd (L2.del H2 a) d (.xd fs))) (fun _ _ _ => False) := by
  refine ⟨by show 1 ≤ 1000; decide, fun a na => ⟨a, v, rfl, upd_same, fun dx nd ne => ⟨rfl, dx, [(f, v)], upd_same, ?_, ?_, ?_⟩⟩⟩
  · rw [upd_ne ne, upd_same]
  · rwa [upd_ne ne] at nd
  · rw [upd_ne ne] at nd
    refine q dx _ upd_same nd fun b o h => ?_
    have ba := ne_of_none h na
    have bd := ne_of_none h nd
    rw [upd_ne bd, del_ne ba, upd_ne ba, upd_ne bd, upd_ne ba]
    exact h
end
/-! classes and defs of the program that may raise, as their callers see them -/
structure HasX (P : Program) (w : World) (K : PySem.W.Frag) (mg : Str → Option Value) (base : Heap) (nm : Str) (C : Addr) (ps : List Str) (k : Nat) (sp : Sp) : Prop where
  ex : ∃ (f : Addr) (fd : FuncData), L2.Mk K C f ∧ FnOk P w K mg base (L2.CX P w) k f fd ps sp ∧ Binds K fd ps []
  at_ : mg nm = some (.ref C)
structure HasR (P : Program) (w : World) (K : PySem.W.Frag) (mg : Str → Option Value) (base : Heap) (nm : Str) (ps : List Str) (k : Nat) (sp : Sp) : Prop where
  ex : ∃ (f : Addr) (fd : FuncData), FnOk P w K mg base (L2.CX P w) k f fd ps sp ∧ mg nm = some (.ref f) ∧ PySem.W.keepIn K (.ref f) = true ∧ Binds K fd ps []
section
variable {X : Cx} {W : WX} {C : Addr} {k : Nat} {nm : Str} {ps : List Str} {sp : Sp} {e : Expr} {es : List Expr} {t : TA} {p pos : Pos}
theorem pe_makeX (h : HasX X.prog X.w X.K X.mg X.base nm C ps k sp) (hr : Room (k + 1) X.A) (hg : Gl X nm) (tk : Takes X W) (ha : PA X (e :: es) t) (hdb : (nm == ("__debug__" : Str)) = false := by decide)
    (he : starEach (e :: es) X.env = (false, eval e X.env) :: starEach es X.env := by rfl) (hpl : (backTo pos (starEach es X.env)).any (·.1) = false := by rfl) : PE X (.Call (.Name nm p) (e :: es) [] pos) (tMakeS C sp (WE W) t) := by
  obtain ⟨f, fd, M, F, b⟩ := h.ex
  exact pe_makeS M F hr hg h.at_ b (fun σ => passAt tk σ) ha hdb he hpl
theorem pe_callX (h : HasR X.prog X.w X.K X.mg X.base nm ps k sp) (hr : Room k X.A) (hg : Gl X nm) (tk : Takes X W) (ha : PA X (e :: es) t) (hdb : (nm == ("__debug__" : Str)) = false := by decide)
    (he : starEach (e :: es) X.env = (false, eval e X.env) :: starEach es X.env := by rfl) (hpl : (backTo pos (starEach es X.env)).any (·.1) = false := by rfl) : PE X (.Call (.Name nm p) (e :: es) [] pos) (tCallS sp (WE W) t) := by
  obtain ⟨f, fd, F, g, kp, b⟩ := h.ex
  exact pe_callS F hr hg g kp b (fun σ => passAt tk σ) ha hdb he hpl
end
/-- what an except clause needs of the class that it names and of the one that flies -/
structure Catch (K : PySem.W.Frag) (mg : Str → Option Value) (nm : Str) (D : Addr) : Prop where
  at_ : mg nm = some (.ref D)
  ex : PySem.W.subIn K (.ref D) (.type "BaseException") = some true
  is : PySem.W.isClsIn K D = true
  ty : PySem.W.typeIn K (.ref D) = some (.type "type")
theorem Catch.one {K : PySem.W.Frag} {mg : Str → Option Value} {nm : Str} {C D : Addr} {b : Bool} (c : Catch K mg nm D) (h : PySem.W.subIn K (.ref C) (.ref D) = some b) : PySem.W.exmOne K (.ref C) (.ref D) = some b := by
  have e1 : (PySem.W.subIn K (.ref D) (.type "BaseException") == some true) = true := by rw [c.ex] <;> rfl
  have e2 : ((PySem.W.clsIn K D).isSome && PySem.W.typeIn K (.ref D) == some (.type "type")) = true := by
    rw [show (PySem.W.clsIn K D).isSome = true from c.is, c.ty] <;> rfl
  unfold PySem.W.exmOne
  rw [if_pos e1]
  show (if _ then _ else _) = _
  rw [if_pos e2]
  exact h
/-! what isinstance says of data -/
def tyD : PyData → String
  | .none => "NoneType"
  | .bool _ => "bool"
  | .int _ => "int"
  | .str _ => "str"
  | .list _ => "list"
  | .tuple _ => "tuple"
  | .dict _ => "dict"
def isaT (T t : String) : Bool := t == T || (T == "int" && t == "bool")
def isaD (T : String) (d : PyData) : Bool := isaT T (tyD d)
theorem dt_ty {K : PySem.W.Frag} {a : Out} {H : Hp} {v : V} {d : PyData} (h : Dt a H v d) : TyX K H v (.type (tyD d)) := by
  cases h with
  | non => exact .base .non
  | bl b => exact .base (.bl b)
  | int i => exact .base (.int i)
  | str x => exact .base (.str x)
  | lst _ h _ => exact .base (.lst h)
  | tup _ h _ => exact .base (.tup h)
  | dic _ h _ => exact .base (.dK h)
theorem kit_D {K : PySem.W.Frag} (d : PyData) {T : String} (hT : T = "int" ∨ T = "bool" ∨ T = "str" ∨ T = "list" ∨ T = "tuple" ∨ T = "dict") : PySem.W.kitOne K (.type (tyD d)) (.type T) = some (isaD T d) := by
  rcases hT with rfl | rfl | rfl | rfl | rfl | rfl <;> cases d <;> (simp only [isaD, tyD]; exact kit_ty (by decide +kernel))
theorem isi_D {K : PySem.W.Frag} {a : Out} {H : Hp} {v : V} {d : PyData} {T : String} {Q : VK} (h : Dt a H v d) (q : Q (.bl (isaD T d)) H) (hT : T = "int" ∨ T = "bool" ∨ T = "str" ∨ T = "list" ∨ T = "tuple" ∨ T = "dict" := by simp) :
    rIsi K [v, .ty T] H Q := ⟨v, .ty T, _, _, _, rfl, .ty T, dt_ty h, kit_D d hT, q⟩
end Xci

namespace Xci
open PySem PySem.Spec PyProof.Rows L2
/-! what the program's judges say of any data -/
def intD : PyData → Bool
  | .int _ => true
  | _ => false
theorem intD_isa (d : PyData) : (isaD "int" d && !isaD "bool" d) = intD d := by cases d <;> (simp only [isaD, tyD, intD]; decide +kernel)
def btwD (lo hi : Int) : PyData → Bool
  | .int x => decide (lo ≤ x ∧ x ≤ hi)
  | _ => false
def cellFrom (n : Int) : Int → List PyData → Bool
  | _, [] => true
  | lo, .int x :: r => decide (lo ≤ x ∧ x ≤ n - 1) && cellFrom n (x + 1) r
  | _, _ :: _ => false
def cellD (n : Int) : PyData → Bool
  | .tuple ds => cellFrom n 0 ds
  | _ => false
def marksD : PyData → List Int
  | .tuple ds => ds.filterMap fun d => match d with
    | .int x => some x
    | _ => none
  | _ => []
def cellsD (n : Int) : PyData → Bool
  | .tuple ds => decide (1 ≤ ds.length ∧ ds.length ≤ 24) && (ds.all (cellD n) && decide (ds.map marksD).Nodup)
  | _ => false
def spIntD : Sp := fun vs H Q _ => ∃ (a : Out) (v : V) (d : PyData), vs = [v] ∧ Dt a H v d ∧ Q (.bl (intD d)) H
def spBtwD : Sp := fun vs H Q _ => ∃ (a : Out) (lo hi : Int) (v : V) (d : PyData), vs = [.int lo, .int hi, v] ∧ Dt a H v d ∧ Q (.bl (btwD lo hi d)) H
def spCellD : Sp := fun vs H Q _ => ∃ (a : Out) (n : Int) (v : V) (d : PyData), vs = [.int n, v] ∧ Dt a H v d ∧ Q (.bl (cellD n d)) H
def spCellsD : Sp := fun vs H Q _ => ∃ (a : Out) (n : Int) (v : V) (d : PyData), vs = [.int n, v] ∧ Dt a H v d ∧ Q (.bl (cellsD n d)) H
theorem isa_tup (d : PyData) : isaD "tuple" d = true ↔ ∃ ds, d = .tuple ds := by
  cases d <;> simp [isaD, isaT, tyD]
theorem isa_tup_not {d : PyData} (h : isaD "tuple" d ≠ true) : (∀ n, cellD n d = false) ∧ ∀ n, cellsD n d = false := by
  cases d <;> first | exact ⟨fun _ => rfl, fun _ => rfl⟩ | exact absurd ((isa_tup _).mpr ⟨_, rfl⟩) h
/-- a right cell is the tuple of its marks -/
theorem cellFrom_spec {n : Int} : ∀ {lo : Int} {ds : List PyData}, cellFrom n lo ds = true → ∃ ms : List Int, ds = ms.map .int ∧ ms.Pairwise (· < ·) ∧ (∀ m ∈ ms, lo ≤ m) ∧ ∀ m ∈ ms, m < n
  | _, [], _ => ⟨[], rfl, .nil, by simp, by simp⟩
  | lo, .int x :: r, h => by
    simp only [cellFrom, Bool.and_eq_true, decide_eq_true_eq] at h
    obtain ⟨⟨h1, h2⟩, h3⟩ := h
    obtain ⟨ms, rfl, up, lo', hi⟩ := cellFrom_spec h3
    refine ⟨x :: ms, rfl, List.pairwise_cons.mpr ⟨fun m hm => by have := lo' m hm; omega, up⟩, fun m hm => ?_, fun m hm => ?_⟩
    · rcases List.mem_cons.mp hm with rfl | hm
      · exact h1
      · have := lo' m hm; omega
    · rcases List.mem_cons.mp hm with rfl | hm
      · omega
      · exact hi m hm
  | _, .none :: _, h => by simp [cellFrom] at h
  | _, .bool _ :: _, h => by simp [cellFrom] at h
  | _, .str _ :: _, h => by simp [cellFrom] at h
  | _, .list _ :: _, h => by simp [cellFrom] at h
  | _, .tuple _ :: _, h => by simp [cellFrom] at h
  | _, .dict _ :: _, h => by simp [cellFrom] at h
theorem cellD_spec {n : Int} {d : PyData} (h : cellD n d = true) : ∃ ms : List Int, d = .tuple (ms.map .int) ∧ MarksOk n ms ∧ marksD d = ms := by
  cases d with
  | tuple ds =>
    obtain ⟨ms, rfl, up, lo, hi⟩ := cellFrom_spec h
    refine ⟨ms, rfl, ⟨up, lo, hi⟩, ?_⟩
    show (ms.map PyData.int).filterMap _ = ms
    rw [List.filterMap_map]
    exact List.filterMap_some
  | _ => cases h
theorem cellFrom_of {n : Int} : ∀ {lo : Int} {ms : List Int}, ms.Pairwise (· < ·) → (∀ m ∈ ms, lo ≤ m) → (∀ m ∈ ms, m < n) → cellFrom n lo (ms.map .int) = true
  | _, [], _, _, _ => rfl
  | lo, m :: r, up, h1, h2 => by
    obtain ⟨u1, u2⟩ := List.pairwise_cons.mp up
    have a1 := h1 m (List.mem_cons_self ..)
    have a2 := h2 m (List.mem_cons_self ..)
    simp only [List.map_cons, cellFrom, Bool.and_eq_true, decide_eq_true_eq]
    exact ⟨⟨a1, by omega⟩, cellFrom_of u2 (fun k hk => by have := u1 k hk; omega) fun k hk => h2 k (List.mem_cons_of_mem _ hk)⟩
theorem dt_tup {a : Out} {H : Hp} {v : V} {ds : List PyData} (h : Dt a H v (.tuple ds)) : ∃ p xs, v = .ref p ∧ ¬ a p ∧ H p = some (.tup xs) ∧ DtAll a H xs ds := by
  cases h with
  | tup n h r => exact ⟨_, _, rfl, n, h, r⟩
theorem dt_ints {a : Out} {H : Hp} : ∀ {ms : List Int} {xs : List V}, DtAll a H xs (ms.map .int) → xs = ms.map V.int
  | [], _, .nil => rfl
  | m :: r, _, .cons h rs => by
    cases h
    rw [dt_ints rs]
    rfl
theorem dt_cell {a : Out} {H : Hp} {v : V} {n : Int} {d : PyData} (h : Dt a H v d) (c : cellD n d = true) : ∃ ms, MarksOk n ms ∧ marksD d = ms ∧ Xci.Mk H v ms := by
  obtain ⟨ms, rfl, ok, e⟩ := cellD_spec c
  obtain ⟨p, xs, rfl, _, hp, r⟩ := dt_tup h
  rw [dt_ints r] at hp
  exact ⟨ms, ok, e, p, rfl, hp⟩
theorem dt_cells {a : Out} {H : Hp} {n : Int} : ∀ {xs : List V} {ds : List PyData}, DtAll a H xs ds → ds.all (cellD n) = true → Mks H xs (ds.map marksD) ∧ ∀ c ∈ ds.map marksD, MarksOk n c
  | _, _, .nil, _ => ⟨.nil, fun _ h => nomatch h⟩
  | _, _, .cons h rs, c => by
    simp only [List.all_cons, Bool.and_eq_true] at c
    obtain ⟨ms, ok, e, m⟩ := dt_cell h c.1
    obtain ⟨q1, q2⟩ := dt_cells rs c.2
    refine ⟨.cons (by rw [e]; exact m) q1, fun k hk => ?_⟩
    rcases List.mem_cons.mp hk with rfl | hk
    · rw [e]; exact ok
    · exact q2 k hk
theorem all_at {α : Type} {p : α → Bool} {xs : List α} {i : Nat} {x : α} (h : xs[i]? = some x) (hp : p x = false) : xs.all p = false := by
  rw [Bool.eq_false_iff]
  intro z
  have := List.all_eq_true.mp z x (List.mem_of_getElem? h)
  rw [hp] at this
  cases this
end Xci

namespace Xci
open PySem PySem.Spec PyProof.Rows L2
/-! written data: what stands in the text as a display of constants -/
theorem PE.weak {X : Cx} {e : Expr} {t t' : TE} (h : PE X e t) (q : ∀ σ H Q, t' σ H Q → t σ H Q) : PE X e t' := ⟨fun pins s σ H Q I y => h.run pins s σ H Q I (q σ H Q y)⟩
theorem PA.weak {X : Cx} {es : List Expr} {t t' : TA} (h : PA X es t) (q : ∀ σ H Q, t' σ H Q → t σ H Q) : PA X es t' := ⟨fun pos pins s σ H Q I y => h.run pos pins s σ H Q I (q σ H Q y)⟩
/-- nothing that is kept out is free -/
def Used (N : Out) (H : Hp) : Prop := ∀ p, N p → H p ≠ none
theorem Used.same {N : Out} {H H' : Hp} (u : Used N H) (s : Same H H') : Used N H' := fun p n z => by
  cases e : H p with
  | none => exact u p n e
  | some o => rw [s _ _ e] at z; cases z
theorem Used.new {N : Out} {H : Hp} {p : Addr} (u : Used N H) (h : H p = none) : ¬ N p := fun n => u p n h
def tLit (N : Out) (d : PyData) : TE := fun _ H Q => Used N H ∧ ∀ v H', Same H H' → Dt N H' v d → Q v H'
def tLits (N : Out) (ds : List PyData) : TA := fun _ H Q => Used N H ∧ ∀ vs H', Same H H' → DtAll N H' vs ds → Q vs H'
section
variable {X : Cx} {N : Out} {e : Expr} {es : List Expr} {d : PyData} {ds : List PyData} {pos : Pos}
theorem lit_c {t : TE} {v : V} (h : PE X e t) (ht : t = tC v) (hd : ∀ H, Dt N H v d) : PE X e (tLit N d) := PE.weak h fun σ H Q q => by
  rw [ht]
  exact q.2 v H (Same.refl H) (hd H)
theorem lit_non {j : Nat} {p : Pos} : PE X (.Constant .none j p) (tLit N .none) := lit_c pe_non rfl fun _ => .non
theorem lit_bl {b : Bool} {j : Nat} {p : Pos} : PE X (.Constant (.bool b) j p) (tLit N (.bool b)) := lit_c pe_bl rfl fun _ => .bl b
theorem lit_int {i : Int} {j : Nat} {p : Pos} : PE X (.Constant (.int i) j p) (tLit N (.int i)) := lit_c pe_int rfl fun _ => .int i
theorem lit_str {x : Str} {j : Nat} {p : Pos} : PE X (.Constant (.str x) j p) (tLit N (.str x)) := lit_c pe_str rfl fun _ => .str x
theorem lit_neg {i : Int} {j : Nat} {p p2 : Pos} : PE X (.UnaryOp .USub (.Constant (.int i) j p) p2) (tLit N (.int (-i))) := PE.weak (pe_un un_neg pe_int) fun σ H Q q => ⟨i, rfl, q.2 _ H (Same.refl H) (.int _)⟩
theorem lit_pow {i k : Int} {j j2 : Nat} {p p2 p3 : Pos} (h : 0 ≤ k ∧ k ≤ 1000000 ∧ i.natAbs < 2 ^ 64) : PE X (.BinOp (.Constant (.int i) j p) .Pow (.Constant (.int k) j2 p2) p3) (tLit N (.int (i ^ k.toNat))) :=
  PE.weak (pe_op op_pow pe_int pe_int) fun σ H Q q => ⟨i, k, rfl, rfl, h, q.2 _ H (Same.refl H) (.int _)⟩
theorem lit_powadd {i k m : Int} {j j2 j3 : Nat} {p p2 p3 p4 p5 : Pos} (h : 0 ≤ k ∧ k ≤ 1000000 ∧ i.natAbs < 2 ^ 64) : PE X (.BinOp (.BinOp (.Constant (.int i) j p) .Pow (.Constant (.int k) j2 p2) p3) .Add (.Constant (.int m) j3 p4) p5) (tLit N (.int (i ^ k.toNat + m))) :=
  PE.weak (pe_op op_add (pe_op op_pow pe_int pe_int) pe_int) fun σ H Q q => ⟨i, k, rfl, rfl, h, _, _, rfl, rfl, q.2 _ H (Same.refl H) (.int _)⟩
theorem lits_nil : PA X [] (tLits N []) := PA.weak pa_nil fun σ H Q q => q.2 [] H (Same.refl H) .nil
theorem lits_cons (h : PE X e (tLit N d)) (r : PA X es (tLits N ds)) (hs : starEach (e :: es) X.env = (false, eval e X.env) :: starEach es X.env := by rfl) : PA X (e :: es) (tLits N (d :: ds)) :=
  PA.weak (pa_cons h r hs) fun σ H Q q => ⟨q.1, fun v H1 s1 dv => ⟨q.1.same s1, fun vs H2 s2 rs => q.2 (v :: vs) H2 (s1.trans s2) (.cons (dv.fr (FrO.same s2)) rs)⟩⟩
theorem lit_tup {x1} (h : PA X es (tLits N ds)) (hl : ds.length ≤ 1000) : PE X (.Tuple es x1 pos) (tLit N (.tuple ds)) := PE.weak (pe_tup h) fun σ H Q q => ⟨q.1, fun vs H1 s1 r =>
  ⟨by rw [r.len]; exact Nat.le_of_lt (small1000 hl), fun p np => q.2 _ _ (s1.trans (Same.new np)) (.tup ((q.1.same s1).new np) upd_same (r.fr (FrO.same (Same.new np))))⟩⟩
theorem lit_lst (h : PA X es (tLits N ds)) (hl : ds.length ≤ 1000) : PE X (.List es pos) (tLit N (.list ds)) := PE.weak (pe_lst h) fun σ H Q q => ⟨q.1, fun vs H1 s1 r =>
  ⟨by rw [r.len]; exact Nat.le_of_lt (small1000 hl), fun p np => q.2 _ _ (s1.trans (Same.new np)) (.lst ((q.1.same s1).new np) upd_same (r.fr (FrO.same (Same.new np))))⟩⟩
theorem lit_dict0 : PE X (.Dict [] [] pos) (tLit N (.dict [])) := PE.weak pe_dnewK fun σ H Q q => fun p np => q.2 _ _ (Same.new np) (.dic (kvs := []) (ds := []) (q.1.new np) upd_same .nil)
end
/-! short data, put together -/
structure FineAll (n k : Nat) (ds : List PyData) : Prop where
  sh : PyData.showableAll ds = true
  lv : PyData.leavesShortAll 40 ds = true
  bk : PyData.bulkAll ds ≤ n
  dp : PyData.depthAll ds ≤ k
theorem FineAll.nil {n k : Nat} : FineAll n k [] := ⟨rfl, rfl, Nat.zero_le _, Nat.zero_le _⟩
theorem FineAll.cons {n m k : Nat} {d : PyData} {ds : List PyData} (h : Fine n k d) (r : FineAll m k ds) : FineAll (n + 1 + m) k (d :: ds) := by
  refine ⟨?_, ?_, ?_, ?_⟩
  · simp only [PyData.showableAll, h.sh, r.sh, Bool.and_self]
  · simp only [PyData.leavesShortAll, h.lv, r.lv, Bool.and_self]
  · have := h.bk; have := r.bk; simp only [PyData.bulkAll]; omega
  · have := h.dp; have := r.dp; simp only [PyData.depthAll]; omega
theorem FineAll.tup {n k : Nat} {ds : List PyData} (r : FineAll n k ds) : Fine n (k + 1) (.tuple ds) :=
  ⟨by simpa only [PyData.showable] using r.sh, by simpa only [PyData.leavesShort] using r.lv, by simpa only [PyData.bulk] using r.bk, by have := r.dp; simp only [PyData.depth]; omega⟩
theorem FineAll.lst {n k : Nat} {ds : List PyData} (r : FineAll n k ds) : Fine n (k + 1) (.list ds) :=
  ⟨by simpa only [PyData.showable] using r.sh, by simpa only [PyData.leavesShort] using r.lv, by simpa only [PyData.bulk] using r.bk, by have := r.dp; simp only [PyData.depth]; omega⟩
theorem Fine.mono {n k m j : Nat} {d : PyData} (h : Fine n k d) (h1 : n ≤ m) (h2 : k ≤ j) : Fine m j d := ⟨h.sh, h.lv, Nat.le_trans h.bk h1, Nat.le_trans h.dp h2⟩
theorem FineAll.mono {n k m j : Nat} {ds : List PyData} (h : FineAll n k ds) (h1 : n ≤ m) (h2 : k ≤ j) : FineAll m j ds := ⟨h.sh, h.lv, Nat.le_trans h.bk h1, Nat.le_trans h.dp h2⟩
theorem fine_one {n k : Nat} {x : Str} {d : PyData} (h : Fine n k d) (hx : ∀ c ∈ x.cps.toList, c < 16 ^ 8) : Fine (x.cps.size + n + 2) (k + 1) (.dict [(.str x, d)]) := by
  refine ⟨?_, ?_, ?_, ?_⟩
  · simp only [PyData.showable, PyData.showableKv, h.sh, Bool.and_self]
  · simp only [PyData.leavesShort, PyData.leavesShortKv, h.lv, Bool.and_true, List.all_eq_true, decide_eq_true_eq]
    exact hx
  · have := h.bk; simp only [PyData.bulk, PyData.bulkKv]; omega
  · have := h.dp; simp only [PyData.depth, PyData.depthKv]; omega
theorem bulk_len : ∀ ds : List PyData, ds.length ≤ PyData.bulkAll ds
  | [] => Nat.zero_le _
  | d :: r => by have := bulk_len r; simp only [PyData.bulkAll, List.length_cons]; omega
theorem fine_len {n k : Nat} {ds : List PyData} (h : Fine n k (.tuple ds)) : ds.length ≤ n := Nat.le_trans (bulk_len ds) (by simpa only [PyData.bulk] using h.bk)
end Xci

namespace Xci
open PySem PySem.Spec PyProof.Rows L2
/-! a cell in a tuple of cells -/
def mkD (ms : List Int) : PyData := .tuple (ms.map .int)
theorem dpAll_ints {K : PySem.W.Frag} {H : Hp} : ∀ ms : List Int, DpAll K H (ms.map V.int) (ms.map PyData.int)
  | [] => .nil
  | m :: r => .cons (.int m) (dpAll_ints r)
theorem dp_mk {K : PySem.W.Frag} {H : Hp} {v : V} {ms : List Int} (h : Xci.Mk H v ms) : Dp K H v (mkD ms) := by
  obtain ⟨p, rfl, hp⟩ := h
  exact .tup (sqT hp) (dpAll_ints ms)
theorem dpAll_mks {K : PySem.W.Frag} {H : Hp} : ∀ {ys : List V} {cs : List (List Int)}, Mks H ys cs → DpAll K H ys (cs.map mkD)
  | _, _, .nil => .nil
  | _, _, .cons h t => .cons (dp_mk h) (dpAll_mks t)
theorem lay_mk (ms : List Int) : PyData.canLay0 (mkD ms) = true := by
  unfold mkD
  simp only [PyData.canLay0]
  exact (lay_ints ms).1
theorem lay_mks : ∀ cs : List (List Int), PyData.canLayAll0 (cs.map mkD) = true
  | [] => by simp [PyData.canLayAll0]
  | c :: r => by
    simp only [List.map_cons, PyData.canLayAll0, lay_mk c, lay_mks r, Bool.and_self]
theorem deep_mk (ms : List Int) : PyData.depth (mkD ms) = 1 := by
  unfold mkD
  simp only [PyData.depth, (lay_ints ms).2]
theorem any_mk (ms : List Int) : ∀ cs : List (List Int), ((cs.map mkD).any fun z => PyData.eqv z (mkD ms)) = decide (ms ∈ cs)
  | [] => rfl
  | c :: r => by
    have e : PyData.eqv (mkD c) (mkD ms) = decide (c = ms) := by
      unfold mkD
      simp only [PyData.eqv]
      exact eqvAll_ints c ms
    rw [List.map_cons, List.any_cons, any_mk ms r, e, Bool.eq_iff_iff]
    simp only [Bool.or_eq_true, decide_eq_true_eq, List.mem_cons]
    constructor
    · rintro (h | h)
      · exact .inl h.symm
      · exact .inr h
    · rintro (h | h)
      · exact .inl h.symm
      · exact .inr h
def rInMk (K : PySem.W.Frag) : R2 := fun x y H Q => ∃ (p : Addr) (ys : List V) (cs : List (List Int)) (ms : List Int), Xci.Mk H x ms ∧ y = .ref p ∧ SqT K H p ys ∧ Mks H ys cs ∧ Q (.bl (decide (ms ∈ cs))) H
theorem op_inMk {X : Cx} (hu : X.A.units + 64 < cLine) : OpR X (compareOp .In) (rInMk X.K) := by
  intro pins s σ H x y v u Q I rx ry h
  obtain ⟨p, ys, cs, ms, hm, rfl, hs, hcs, q⟩ := h
  obtain ⟨as, r1⟩ := Dp.reads I _ x v (dp_mk hm) rx
  obtain ⟨bs, r2⟩ := Dp.reads I (.tuple (cs.map mkD)) _ u (.tup hs (dpAll_mks hcs)) ry
  refine SeqAt.in_tuple_reads r2 r1 (lay_mks cs) (lay_mk ms) (by rw [deep_mk]; have : min (PyData.depthAll (cs.map mkD)) 1 ≤ 1 := Nat.min_le_right _ _; omega) ?_
  rw [any_mk]
  exact ⟨.bl _, H, I, rfl, q⟩
end Xci

namespace Xci
open PySem PySem.Spec PyProof.Rows L2
/-! a tuple turned about by a slice -/
section
variable {prog : Program} {w : World} {A : Around} {E : Value → Shared → Prop} {s : Shared}
theorem back_bounds (n : Nat) : Builtin.Slice.sliceAdjust none none (-1) (n : Int) = ((n : Int) - 1, -1) := by
  unfold Builtin.Slice.sliceAdjust
  rfl
theorem back_places (n : Nat) : Builtin.Slice.slicePlaces ((n : Int) - 1) (-1) (-1) = n := by
  unfold Builtin.Slice.slicePlaces
  have h : ¬ ((-1 : Int) > 0) := by decide
  simp only [h, if_false, Int.neg_neg, Int.ediv_one]
  split <;> omega
theorem filterMap_told {α β : Type} {f : α → Option β} {g : α → β} : ∀ {l : List α}, (∀ x ∈ l, f x = some (g x)) → l.filterMap f = l.map g
  | [], _ => rfl
  | x :: r, h => by
    rw [List.filterMap_cons, h x (List.mem_cons_self ..), List.map_cons, filterMap_told fun y hy => h y (List.mem_cons_of_mem _ hy)]
theorem back_pick (xs : Array Value) : ((List.range xs.size).filterMap fun (k : Nat) => xs[((xs.size : Int) - 1 + (k : Int) * (-1)).toNat]?).toArray = xs.toList.reverse.toArray := by
  congr 1
  have all : (List.range xs.size).filterMap (fun (k : Nat) => xs[((xs.size : Int) - 1 + (k : Int) * (-1)).toNat]?) = (List.range xs.size).map fun k => xs.toList.reverse[k]?.getD .none := by
    refine filterMap_told fun k hk => ?_
    have hk := List.mem_range.mp hk
    have e : ((xs.size : Int) - 1 + (k : Int) * (-1)).toNat = xs.size - 1 - k := by omega
    have l : k < xs.toList.reverse.length := by simpa using hk
    rw [e, List.getElem?_eq_getElem l, List.getElem_reverse, Array.getElem?_eq_getElem (by omega)]
    simp
  rw [all]
  refine List.ext_getElem (by simp) fun i h1 h2 => ?_
  rw [List.getElem_map, List.getElem_range, List.getElem?_eq_getElem h2]
  rfl
theorem getItem_back {t sl : Addr} {items : Array Value} {vl vu vs : Value} {Q : Value → Shared → Prop} (ht : IsTup s.heap t items) (hs : s.heap.IsSliceOf sl vl vu vs) (pl : IsPart vl none) (pu : IsPart vu none) (ps : IsPart vs (some (-1)))
    (h : Q (.ref s.heap.objs.size) { s with heap := s.heap.push { cls := .type "tuple", data := .seq items.toList.reverse.toArray } }) (hsz : items.size ≤ sizeLine) : wpAny (model prog w) A (getItem (.ref t) (.ref sl)) Q E s := by
  have room : sizeOk (.seq items.toList.reverse.toArray) := by
    show items.toList.reverse.toArray.size ≤ sizeLine
    simpa using hsz
  obtain ⟨os, hos, hcs, hds⟩ := id hs
  have hTs : s.TypeIs (.ref sl) "slice" := ⟨os, hos, hcs⟩
  have app : ∀ {A' : Around} {E' : Value → Shared → Prop} {Q' : Int × Int × Nat → Shared → Prop}, Q' ((items.size : Int) - 1, -1, items.size) s → wpAny (model prog w) A' (Builtin.Slice.sliceApplied (.ref sl) (pure (items.size : Int))) Q' E' s := fun {A' E' Q'} q => by
    unfold Builtin.Slice.sliceApplied Builtin.Slice.sliceFields
    refine wpAny_bind (wpAny_bind (wpAny_field hos hds (x := vl) rfl (wpAny_bind (wpAny_field hos hds (x := vu) rfl (wpAny_bind (wpAny_field hos hds (x := vs) rfl (wpAny_pure ?_)))))))
    refine wpAny_bind (HT.slicePart_ ps ?_)
    show wpAny _ _ (if ((-1 : Int) == 0) = true then _ else _) _ _ s
    rw [if_neg (by decide)]
    refine wpAny_bind (HT.slicePart_ pl (wpAny_bind (HT.slicePart_ pu (wpAny_bind (wpAny_pure ?_)))))
    show wpAny _ _ (match Builtin.Slice.sliceAdjust none none (-1) (items.size : Int) with | (lo, hi) => pure (lo, (-1 : Int), Builtin.Slice.slicePlaces lo hi (-1))) _ _ s
    rw [back_bounds]
    show wpAny _ _ (pure ((items.size : Int) - 1, (-1 : Int), Builtin.Slice.slicePlaces ((items.size : Int) - 1) (-1) (-1))) _ _ s
    rw [back_places]
    exact wpAny_pure q
  unfold getItem
  try with_reducible refine wpAny_holding ?_
  first | refine wpAny_bind (wpAny_pure ?_) | skip
  refine wpAny_bind (wpAny_sequenceKey ht.typeIs (by decide) ?_)
  refine wpAny_bind (wpAny_callSpecial?_slot (name := Str.ofString "__getitem__") ht.typeIs PyProof.Rows.slot_tuple_getitem (wpAny_call_entry PyProof.Rows.slot_tuple_getitem ht.typeIs entry_tuple_getitem ?_ (args_tuple_getitem _ _)))
  show wpAny _ _ (Builtin.Tuple.tupleItemsOf (.ref t) >>= _) _ _ s
  refine wpAny_bind (tupleItemsOf_ ht (wpAny_bind (wpAny_typeOf hTs ?_)))
  rw [if_pos (by decide)]
  refine wpAny_bind (app ?_)
  show wpAny _ _ (if (((items.size : Int) - 1) == 0 && ((-1 : Int) == 1) && items.size == items.size) = true then _ else _) _ _ s
  rw [show ((-1 : Int) == 1) = false from by decide, Bool.and_false, Bool.false_and, if_neg Bool.false_ne_true, back_pick]
  first
    | exact wpAny_bind (m := Builtin.Tuple.tupleExact _) (wpAny_newObj_type (wpAny_pure ⟨_, rfl, wpAny_pure h⟩) room)
    | exact wpAny_bind (m := Builtin.Tuple.tupleExact _) (wpAny_newObj_type (wpAny_bind (wpAny_pure (wpAny_pure ⟨_, rfl, wpAny_pure h⟩))) room)
    | exact wpAny_bind (wpAny_bind (m := Builtin.Tuple.tupleExact _) (wpAny_newObj_type (wpAny_pure (wpAny_pure ⟨_, rfl, wpAny_pure h⟩)) room))
    | exact wpAny_bind (wpAny_bind (m := Builtin.Tuple.tupleExact _) (wpAny_newObj_type (wpAny_pure ⟨_, rfl, wpAny_pure h⟩) room))
end
def tRevT (K : PySem.W.Frag) (te : TE) : TE := fun σ H Q => te σ H fun x H1 => ∃ a xs, x = .ref a ∧ SqT K H1 a xs ∧ ∀ p, H1 p = none → Q (.ref p) (upd H1 p (.tup xs.reverse))
theorem pe_revT {X : Cx} {e : Expr} {te : TE} {k : Nat} {p1 p2 p3 pos : Pos} (he : PE X e te) : PE X (.Subscript e (.Slice none none (some (.UnaryOp .USub (.Constant (.int 1) k p1) p2)) p3) pos) (tRevT X.K te) := by
  refine ⟨fun pins s σ H Q I h => Subscript_ (thn (he.run pins s σ H _ I h) fun v s1 ⟨x, H1, I1, r1, a, xs, ex, hx, q⟩ => ?_)⟩
  subst ex
  cases r1
  have step : PO X (some (.UnaryOp .USub (.Constant (.int 1) k p1) p2)) (tPart (tUn (rU fun i => .int (-i)) (tC (.int 1)))) := po_some (pe_un un_neg pe_int)
  refine wpAny_Slice (thn (po_none.run pins s1 σ H1 (fun o H2 => o = none ∧ H2 = H1) I1 ⟨rfl, rfl⟩) fun vl s2 ⟨l, H2, I2, pl, el, e2⟩ => ?_)
  subst el e2
  refine thn (po_none.run pins s2 σ H2 (fun o H3 => o = none ∧ H3 = H2) I2 ⟨rfl, rfl⟩) fun vu s3 ⟨u, H3, I3, pu, eu, e3⟩ => ?_
  subst eu e3
  refine thn (step.run pins s3 σ H3 (fun o H4 => o = some (-1) ∧ H4 = H3) I3 ⟨1, rfl, -1, rfl, rfl, rfl⟩) fun vs s4 ⟨o, H4, I4, ps, eo, e4⟩ => ?_
  subst eo e4
  have J : Inv X pins σ H4 { s4 with heap := s4.heap.push { cls := .type "slice", data := .fields #[vl, vu, vs] } } := I4.kept (t' := s4.toks) fun b ob z => Heap.get?_push_of_some _ z
  obtain ⟨its, r, ht, hz⟩ := J.tuple hx
  have size : its.toArray.size = xs.length := by rw [List.size_toArray]; exact r.length.symm
  show wpAny (model X.prog X.w) X.A (subscriptTail e _ (.ref a) (.ref s4.heap.objs.size)) (EP X pins σ Q) X.xe _
  refine tail_any (ops := [.ref a, .ref s4.heap.objs.size]) ht.typeIs PyProof.Rows.slot_tuple_getitem.lookup ?_ (by with_unfolding_all rfl)
  refine getItem_back ht (Heap.IsSliceOf.new _ vl vu vs) pl pu ps ?_ (by rw [size]; exact hz)
  refine ⟨.ref _, _, J.laid (t' := s4.toks) (o := .tup xs.reverse) (fun b ob z => Heap.get?_push_of_some _ z) (Nat.le_refl _) ?_, rfl, q _ (J.hok.fresh (Nat.le_refl _))⟩
  exact ⟨by rw [List.length_reverse]; exact hz, _, r.reverse, IsTup.new _ _⟩
end Xci

namespace Xci
open PySem PySem.Spec PyProof.Rows L2
/-! tuples of data, put together and cut -/
section
variable {K : PySem.W.Frag} {N : Out} {H : Hp} {x y : V} {ds es : List PyData} {Q : VK}
theorem cat_D (hx : Dt N H x (.tuple ds)) (hy : Dt N H y (.tuple es)) (u : Used N H) (small : ds.length + es.length ≤ 5000) (q : ∀ v H', Same H H' → Dt N H' v (.tuple (ds ++ es)) → Q v H') : rCatA K x y H Q := by
  obtain ⟨a, xs, rfl, na, ha, ra⟩ := dt_tup hx
  obtain ⟨b, ys, rfl, nb, hb, rb⟩ := dt_tup hy
  have l1 := ra.len
  have l2 := rb.len
  refine ⟨a, b, xs, ys, rfl, rfl, sqT ha, sqT hb, by rw [l1, l2, sizeLine_eq]; omega, fun e => ?_, fun _ e => ?_, fun _ _ p hp => ?_⟩
  · subst e
    have : ds = [] := List.eq_nil_of_length_eq_zero (by rw [← l1]; rfl)
    subst this
    exact q _ H (Same.refl H) hy
  · subst e
    have : es = [] := List.eq_nil_of_length_eq_zero (by rw [← l2]; rfl)
    subst this
    exact q _ H (Same.refl H) (by rw [List.append_nil]; exact hx)
  · exact q _ _ (Same.new hp) (.tup (u.new hp) upd_same ((ra.append rb).fr (FrO.same (Same.new hp))))
/-- the first k, or all behind them -/
theorem cutFromD (xs : List V) (k : Nat) : cutV xs (some (k : Int)) none = xs.drop k := by
  have e1 : HT.sIx xs.length xs.length none = xs.length := rfl
  unfold cutV
  rw [e1, HT.sIx_nat]
  by_cases h : k ≤ xs.length
  · rw [Nat.min_eq_left h, List.take_of_length_le (by rw [List.length_drop]; omega)]
  · rw [Nat.min_eq_right (by omega), List.drop_of_length_le (Nat.le_refl _), List.drop_of_length_le (by omega), List.take_nil]
theorem to_D {k : Nat} (hx : Dt N H x (.tuple ds)) (u : Used N H) (q : ∀ v H', Same H H' → Dt N H' v (.tuple (ds.take k)) → Q v H') : rSlA K x none (some (k : Int)) H Q := by
  obtain ⟨a, xs, rfl, na, ha, ra⟩ := dt_tup hx
  have l1 := ra.len
  refine ⟨a, xs, rfl, sqT ha, fun full => ?_, fun _ p hp => ?_⟩
  · have z := full.2
    rw [HT.sIx_nat] at z
    refine q _ H (Same.refl H) ?_
    rw [List.take_of_length_le (by omega)]
    exact hx
  · rw [cutTo]
    exact q _ _ (Same.new hp) (.tup (u.new hp) upd_same ((ra.cut k).1.fr (FrO.same (Same.new hp))))
theorem from_D {k : Nat} (hx : Dt N H x (.tuple ds)) (u : Used N H) (q : ∀ v H', Same H H' → Dt N H' v (.tuple (ds.drop k)) → Q v H') : rSlA K x (some (k : Int)) none H Q := by
  obtain ⟨a, xs, rfl, na, ha, ra⟩ := dt_tup hx
  have l1 := ra.len
  refine ⟨a, xs, rfl, sqT ha, fun full => ?_, fun _ p hp => ?_⟩
  · have z := full.1
    rw [HT.sIx_nat] at z
    refine q _ H (Same.refl H) ?_
    by_cases h : k = 0
    · subst h
      exact hx
    · have : xs.length = 0 := by omega
      have e : ds = [] := List.eq_nil_of_length_eq_zero (by omega)
      subst e
      simpa using hx
  · rw [cutFromD]
    exact q _ _ (Same.new hp) (.tup (u.new hp) upd_same ((ra.cut k).2.fr (FrO.same (Same.new hp))))
theorem to_Di {i : Int} {k : Nat} (e : i = (k : Int)) (hx : Dt N H x (.tuple ds)) (u : Used N H) (q : ∀ v H', Same H H' → Dt N H' v (.tuple (ds.take k)) → Q v H') : rSlA K x none (some i) H Q := by
  subst e
  exact to_D hx u q
theorem from_Di {i : Int} {k : Nat} (e : i = (k : Int)) (hx : Dt N H x (.tuple ds)) (u : Used N H) (q : ∀ v H', Same H H' → Dt N H' v (.tuple (ds.drop k)) → Q v H') : rSlA K x (some i) none H Q := by
  subst e
  exact from_D hx u q
theorem dtAll_rev : ∀ {xs : List V} {ds : List PyData}, DtAll N H xs ds → DtAll N H xs.reverse ds.reverse
  | _, _, .nil => .nil
  | _, _, .cons h r => by
    rw [List.reverse_cons, List.reverse_cons]
    exact (dtAll_rev r).append (.cons h .nil)
theorem tup1_D (u : Used N H) (hx : Dt N H x d) (q : ∀ v H', Same H H' → Dt N H' v (.tuple [d]) → Q v H') : [x].length ≤ sizeLine ∧ ∀ p, H p = none → Q (.ref p) (upd H p (.tup [x])) :=
  ⟨by show 1 ≤ sizeLine; decide, fun p hp => q _ _ (Same.new hp) (.tup (u.new hp) upd_same (.cons (hx.fr (FrO.same (Same.new hp))) .nil))⟩
end
/-! cells as data -/
theorem dt_mk {N : Out} {H : Hp} {v : V} {ms : List Int} (h : Xci.Mk H v ms) (n : ∀ p xs, N p → H p ≠ some (.tup xs)) : Dt N H v (mkD ms) := by
  obtain ⟨p, rfl, hp⟩ := h
  refine .tup (fun z => n p _ z hp) hp ?_
  have : ∀ ks : List Int, DtAll N H (ks.map V.int) (ks.map PyData.int) := fun ks => by
    induction ks with
    | nil => exact .nil
    | cons k r ih => exact .cons (.int k) ih
  exact this ms
theorem dt_mks {N : Out} {H : Hp} (n : ∀ p xs, N p → H p ≠ some (.tup xs)) : ∀ {ys : List V} {cs : List (List Int)}, Mks H ys cs → DtAll N H ys (cs.map mkD)
  | _, _, .nil => .nil
  | _, _, .cons h t => .cons (dt_mk h n) (dt_mks n t)
theorem deck_no_tup {a l : Addr} {H : Hp} (d : Deck H a l) : ∀ p xs, p = a → H p ≠ some (.tup xs) := fun p xs e z => by
  obtain ⟨ys, h⟩ := d.is
  rw [e, h] at z
  cases z
theorem deck_used {a l : Addr} {H : Hp} (d : Deck H a l) : Used (· = a) H := fun p e z => by
  obtain ⟨ys, h⟩ := d.is
  have e : p = a := e
  rw [e, h] at z
  cases z
/-! what is short -/
theorem fine_int {n k : Nat} {i : Int} (h : i.natAbs < 10 ^ 12) : Fine n k (.int i) := by
  refine ⟨?_, ?_, Nat.zero_le _, Nat.zero_le _⟩
  · simp only [PyData.showable, decide_eq_true_eq]
    by_cases z : i.natAbs = 0
    · rw [z]
      decide
    · exact (Nat.log2_lt z).mpr (Nat.lt_of_lt_of_le h (by decide +kernel))
  · have := PyData.shown_int_le h
    simp only [PyData.leavesShort, decide_eq_true_eq]
    omega
theorem FineAll.of {n k : Nat} : ∀ {ds : List PyData}, (∀ d ∈ ds, Fine n k d) → FineAll ((n + 1) * ds.length) k ds
  | [], _ => .nil
  | d :: r, h => by
    refine (FineAll.cons (h d (List.mem_cons_self ..)) (FineAll.of fun e he => h e (List.mem_cons_of_mem _ he))).mono ?_ (Nat.le_refl _)
    rw [List.length_cons, Nat.mul_succ]
    omega
theorem FineAll.append {n m k : Nat} : ∀ {xs ys : List PyData}, FineAll n k xs → FineAll m k ys → FineAll (n + m) k (xs ++ ys)
  | [], ys, _, h => h.mono (Nat.le_add_left _ _) (Nat.le_refl _)
  | d :: r, ys, h, g => by
    have h1 := h.sh
    have h2 := h.lv
    have h3 := h.bk
    have h4 := h.dp
    simp only [PyData.showableAll, Bool.and_eq_true] at h1
    simp only [PyData.leavesShortAll, Bool.and_eq_true] at h2
    simp only [PyData.bulkAll] at h3
    simp only [PyData.depthAll] at h4
    have ih := FineAll.append (n := n - d.bulk - 1) (m := m) (k := k) (xs := r) (ys := ys) ⟨h1.2, h2.2, by omega, by omega⟩ g
    refine (FineAll.cons (n := d.bulk) ⟨h1.1, h2.1, Nat.le_refl _, by omega⟩ ih).mono (by omega) (Nat.le_refl _)
theorem fine_mk {ms : List Int} (hl : ms.length ≤ 60) (h : ∀ m ∈ ms, m.natAbs < 10 ^ 12) : Fine 60 1 (mkD ms) := by
  refine ((FineAll.of (n := 0) (k := 0) fun d hd => ?_).tup).mono ?_ (Nat.le_refl _)
  · obtain ⟨m, hm, rfl⟩ := List.mem_map.mp hd
    exact fine_int (h m hm)
  · rw [List.length_map]
    omega
def Wide (d : PyData) : Prop := ∀ ds, d = .tuple ds → ∀ e ∈ ds, ∀ es, e = .tuple es → es.length ≤ 900
theorem wide_all {n k : Nat} {ds : List PyData} (hn : n ≤ 900) (h : ∀ e ∈ ds, Fine n k e) : Wide (.tuple ds) := fun ds' e z hz es ez => by
  cases e
  subst ez
  exact Nat.le_trans (fine_len (h _ hz)) hn
theorem bulk_mem {ds : List PyData} {d : PyData} (h : d ∈ ds) : d.bulk ≤ PyData.bulkAll ds := by
  induction ds with
  | nil => cases h
  | cons x r ih =>
    simp only [PyData.bulkAll]
    rcases List.mem_cons.mp h with rfl | h
    · omega
    · have := ih h; omega
theorem wide_of {n k : Nat} {d : PyData} (hn : n ≤ 900) (h : Fine n k d) : Wide d := fun ds e z hz es ez => by
  subst e ez
  have h1 : PyData.bulkAll ds ≤ n := by simpa only [PyData.bulk] using h.bk
  have h2 := bulk_mem hz
  have h3 : (PyData.tuple es).bulk = PyData.bulkAll es := by simp only [PyData.bulk]
  have h4 := bulk_len es
  omega
theorem tup_fine {ds : List PyData} (h : ∀ e ∈ ds, Fine 300 44 e) (hl : ds.length ≤ 90) : Fine 30000 45 (.tuple ds) ∧ Wide (.tuple ds) :=
  ⟨(FineAll.of h).tup.mono (by have := Nat.mul_le_mul_left 301 hl; omega) (Nat.le_refl _), wide_all (by omega) h⟩
end Xci

namespace Xci
open PySem PySem.Spec PyProof.Rows L2
/-- d.get(text), d a written dict of the module with text keys -/
theorem mt_getK {X : Cx} {d : Addr} {es : Array DictEntry} {n : Nat} (D : KDict X.K X.w d es n) : MtR X "dict.get" (fun x xs H Q => ∃ (z : Str) (r : Option Value) (v0 : V), x = .ref d ∧ xs = [.str z] ∧ PySem.W.nsIn X.K d z = some r ∧ RelV v0 (r.getD .none) ∧ Q v0 H) := by
  intro pins s σ H x xs v us Q I rx rxs h
  obtain ⟨z, r, v0, rfl, rfl, e, rv, q⟩ := h
  cases rx
  cases rxs with
  | cons ry rest =>
    cases rest
    obtain ⟨t, rfl⟩ := ry
    have m := PySem.W.mapOf_K (prog := X.prog) I.kIn D.at_ D.lit
    refine call_meetsIn PySem.F.slot_dict_get m.typeIs PySem.F.entry_dict_get (PySem.F.args_dict_get_2 _ _) (meets_dict_get (strKind X.prog X.w) d (PySem.strKind_is X.prog X.w z t) D.low) ⟨_, m, ?_⟩
    refine ⟨v0, H, I.tok _, ?_, q⟩
    rw [PySem.W.find_K D.at_ e]
    exact rv
/-- the call, as a piece of a def: the dict is the written one -/
def tGetK (K : PySem.W.Frag) (d : Addr) (td ty : TE) : TE := fun σ H Q => td σ H fun x H1 => x = .ref d ∧ ty σ H1 fun y H2 => ∃ (z : Str) (r : Option Value) (v0 : V), y = .str z ∧ PySem.W.nsIn K d z = some r ∧ RelV v0 (r.getD .none) ∧ Q v0 H2
theorem pe_getK {X : Cx} {o e : Expr} {apos cpos : Pos} {td ty : TE} {d : Addr} {es : Array DictEntry} {n : Nat} (D : KDict X.K X.w d es n) (ho : PE X o td) (he : PE X e ty) (m : M1 X o "get" apos e cpos) : PE X (.Call (.Attribute o "get" apos) [e] [] cpos) (tGetK X.K d td ty) := by
  refine ⟨fun pins s σ H Q I h => ?_⟩
  refine wpAny_Call_method m.base m.few m.line PySem.F.plainAttrs_dict PySem.F.slot_dict_get PySem.F.type_dict_get (thn (ho.run pins s σ H _ I h) fun u s1 ⟨x, H1, I1, rx, ex, q1⟩ => ?_)
  subst ex
  obtain rfl : u = Value.ref d := rx
  refine ⟨kd_type D I1, fun b q => by cases q; exact ⟨_, I1.kIn _ _ D.at_, rfl⟩, ?_⟩
  rw [m.trees]
  refine Calls.callWith_builtin rfl (Calls.evalArgs_plain (Calls.spliced_cons (thn (he.run pins s1 σ H1 _ I1 q1) fun iv s2 ⟨y, H2, I2, ry, z, r, v0, ey, ek, rv, q2⟩ => Calls.spliced_nil ?_)))
  exact mt_getK D pins s2 σ H2 (.ref d) [y] (.ref d) [iv] Q I2 rfl (.cons ry .nil) ⟨z, r, v0, rfl, by rw [ey], ek, rv, q2⟩
end Xci

namespace Xci
open PySem PySem.Spec PyProof.Rows L2
/-! == by the own __eq__ of the left side's class, whatever stands on the right and whatever it answers -/
def rEqX (K : PySem.W.Frag) (C : Addr) (sp : Sp) : R2 := fun x y H Q => ∃ (a dx : Addr) (fs : List (Str × V)) (T : Value), x = .ref a ∧ H a = some (.ins C dx fs) ∧ TyX K H y T ∧ PySem.W.notFirst K C T = true ∧
  sp [x, y] H (fun v H' => (∃ b, v = .bl b) ∧ Q v H') fun _ _ _ => False
/-- the own == of a class, as its users see it -/
structure HasEX (P : Program) (w : World) (K : PySem.W.Frag) (mg : Str → Option Value) (base : Heap) (C : Addr) (k : Nat) (sp : Sp) : Prop where
  ex : ∃ (f : Addr) (fd : FuncData), FnOk P w K mg base CX0 k f fd ["self", "other"] sp ∧ PySem.W.findIn K (.ref C) "__eq__" = some (some (.ref f)) ∧ PySem.W.isFn K (.ref f) = true ∧ Binds K fd ["self", "other"] []
theorem op_eqX {X : Cx} {C : Addr} {k : Nat} {sp : Sp} (h : HasEX X.prog X.w X.K X.mg X.base C k sp) (hr : Room k X.A) : OpR X (compareOp .Eq) (rEqX X.K C sp) := by
  obtain ⟨f, fd, F, found, isf, hb⟩ := h.ex
  intro pins s σ H x y v u Q I rx ry hq
  obtain ⟨a, dx, fs, T, rfl, ha, ty, nf, told⟩ := hq
  cases rx
  obtain ⟨mA, J, _⟩ := ins_get I.hok ha
  obtain ⟨od, J, _⟩ := J.look
  obtain ⟨m, hF⟩ := I.fr
  obtain ⟨φ, kit, holds, _⟩ := kit_of I ry ty
  show wpAny (model X.prog X.w) X.A (richCompare .Eq (.ref a) u) (EP X pins σ Q) X.xe s
  refine PySem.W.cmp_K (op := .Eq) (tb := T) hr.units0 hF I.ok.mod.kin J (kit.ty _ _ I.kIn holds) nf found isf ?_
  have e0 : Env0 X.prog X.w X.K X.mg X.base X.A X.stack s H := I.env0
  have two : Vals [V.ref a, y] [Value.ref a, u] := .cons rfl (.cons ry .nil)
  refine wpAny_call (codeAny_mono (F.run X.A X.stack s H ⟨[.ref a, u], []⟩ [.ref a, u] [.ref a, y] _ _ hr e0 (by
    have z := hb s [.ref a, u] I.kIn rfl
    simpa using z) two told) fun r s' z => ?_)
  match r, z with
  | .error _, z => exact False.elim z
  | .ok (.ret w), z =>
    obtain ⟨t, H', I', rt, ⟨⟨b, eb⟩, q⟩⟩ := I.after z
    subst eb
    cases rt
    exact ⟨.bl b, H', I', rfl, q⟩
  | .ok .next, z => exact False.elim z
  | .ok .brk, z => exact False.elim z
  | .ok .cont, z => exact False.elim z
/-- what is of another type is no instance of an own class -/
theorem kit_not {K : PySem.W.Frag} {t : Value} {C : Addr} (h1 : PySem.W.isClsIn K C = true) (h2 : PySem.W.typeIn K (.ref C) = some (.type "type")) (h3 : PySem.W.subIn K t (.ref C) = some false) (h4 : (t == Value.ref C) = false) : PySem.W.kitOne K t (.ref C) = some false := by
  unfold PySem.W.kitOne
  rw [if_neg (by rw [h4]; exact Bool.false_ne_true)]
  have q : ((PySem.W.clsIn K C).isSome && PySem.W.typeIn K (.ref C) == some (.type "type")) = true := by
    rw [show (PySem.W.clsIn K C).isSome = true from h1, h2] <;> rfl
  show (if _ then _ else _) = _
  rw [if_pos q]
  exact h3
end Xci

namespace Xci
open PySem PySem.Spec PyProof.Rows L2
/-! list.count of flat values; isinstance of the caught error, whichever class flew; comprehensions with two generators -/
def rCntF (K : PySem.W.Frag) : V → List V → Hp → VK → Prop := fun x xs H Q => ∃ (p : Addr) (ys : List V) (y : V), x = .ref p ∧ xs = [y] ∧ SqL K H p ys ∧ flatV y = true ∧ ys.all flatV = true ∧ Q (.int ((ys.countP fun z => eqV z y) : Nat)) H
theorem count_eqU {y : V} : ∀ {ys : List V} {us : List Value}, Vals ys us → ys.all flatV = true → us.countP (eqU y) = ys.countP fun z => eqV z y
  | _, _, .nil, _ => rfl
  | _, _, .cons r rs, f => by
    rw [List.all_cons, Bool.and_eq_true] at f
    rw [List.countP_cons, List.countP_cons, eqU_of r f.1, count_eqU rs f.2]
theorem mt_countF {X : Cx} : MtR X "list.count" (rCntF X.K) := by
  intro pins s σ H x xs v us Q I rx rxs h
  obtain ⟨p, ys, y, rfl, rfl, sq, fy, fys, q⟩ := h
  cases rx
  obtain ⟨u, rfl, ru⟩ := rxs.one
  obtain ⟨its, rv, ⟨⟨cls, dd, data, sl⟩, n, at_, kind, hdn, datum⟩, hlen⟩ := I.list sq
  simp only at kind datum
  subst kind datum
  have told := count_eqU (y := y) rv fys
  have body := SeqAt.list_countAt p its.toArray n dd sl u (eqU y)
  refine call_meets PySem.F.slot_list_count ⟨_, at_, rfl⟩ PySem.F.entry_list_count (PySem.F.args_list_count_2 _ _) body ⟨at_, fun w hw => mem_eqAt ru fy rv fys w (by simpa using hw), .int _, H, I.tok _, ⟨s.toks, ?_⟩, q⟩
  show Value.int ((its.countP (eqU y) : Nat) : Int) s.toks = _
  rw [told]
def rIsEx (K : PySem.W.Frag) (cls : Value) (d : Option Addr) (a : Addr) : List V → Hp → VK → Prop := fun xs H Q => ∃ D : Addr, ExcC K D ∧ cls = .ref D ∧ d = none ∧ rIsE K D a xs H Q
theorem call_isEx {X : Cx} {a : Addr} {cls : Value} {d : Option Addr} {oe : Obj} {pn : List (Addr × Obj)} (hz : Zc cls d oe) (hf : ∃ vs, oe.data = .fields vs) : CallR (X.suite a ((a, oe) :: pn)) (.builtin "isinstance") (rIsEx X.K cls d a) := by
  intro pins s σ H xs us Q I r h
  obtain ⟨D, ex, rfl, rfl, h⟩ := h
  exact call_isE ex hz hf pins s σ H xs us Q I r h
section
variable {J J1 : It} {n n1 : Nat} {G G1 : Hp → Prop} {Y Y1 : Nat → Hp → V → Hp → Prop} {Qd Nx : Hp → Prop} {D : Addr}
/-- the walk of a comprehension's generator, its turn left open -/
theorem turns (w : Walk J n G Y) (Pv : Nat → Hp → Prop) (T : (Hp → Prop) → V → Hp → Prop) {H1 : Hp} (h0 : Pv 0 H1) (hG : ∀ i H, i ≤ n → Pv i H → G H)
    (hs : ∀ i x H H', i < n → Pv i H → Y i H x H' → T (Pv (i + 1)) x H') (hd : ∀ H, Pv n H → Qd H) :
    ∃ W : Nat → Nat → Hp → Prop, (∃ m, W 0 m H1) ∧ ∀ i m H, W i m H → (J.stop i H ∧ Qd H) ∨ (J.go i H ∧ ∃ Nx : Hp → Prop, (∀ H', Nx H' → ∃ m', m' < m ∧ W (i + 1) m' H') ∧ ∀ x H', J.yld i H x H' → T Nx x H') := by
  refine ⟨fun i m H => m + i = n ∧ Pv i H, ⟨n, rfl, h0⟩, fun i m H ⟨e, p⟩ => ?_⟩
  have at_ := hG i H (by omega) p
  rcases Nat.lt_or_ge i n with lt | ge
  · exact .inr ⟨w.goes i H lt at_, _, fun H' p' => ⟨m - 1, by omega, by omega, p'⟩, fun x H' y => hs i x H H' lt p (w.yields i H x H' lt at_ y)⟩
  · have all : i = n := by omega
    rw [all] at p ⊢
    exact .inl ⟨w.stops H (hG n H (Nat.le_refl _) p), hd H p⟩
end
end Xci

namespace Xci
open PySem PySem.Spec PyProof.Rows L2
/-! isinstance of the caught error, with fields or without, whichever class flew -/
def rIsExD (K : PySem.W.Frag) (cls : Value) (d : Option Addr) (a : Addr) : List V → Hp → VK → Prop := fun xs H Q => ∃ D : Addr, ExcC K D ∧ cls = .ref D ∧ (∀ dd, d = some dd → ∃ fs, H dd = some (.xd fs)) ∧ rIsE K D a xs H Q
theorem call_isExD {X : Cx} {a : Addr} {cls : Value} {d : Option Addr} {oe : Obj} {pn : List (Addr × Obj)} (hz : Zc cls d oe) (hf : ∃ vs, oe.data = .fields vs) : CallR (X.suite a ((a, oe) :: pn)) (.builtin "isinstance") (rIsExD X.K cls d a) := by
  intro pins s σ H xs us Q I r h
  obtain ⟨D, C, rfl, fields, c, cv, b, rfl, hcv, e, q⟩ := h
  obtain ⟨ut, eus, rt⟩ : ∃ ut, us = [.ref a, ut] ∧ L2.RelV c ut := by
    cases r with
    | cons rx rest => cases rest with | cons r1 r2 => cases r2; cases rx; exact ⟨_, rfl, r1⟩
  · subst eus
    obtain rfl := hcv _ rt
    obtain ⟨at_, _⟩ := I.pin (a, oe) (List.mem_append.mpr (.inl List.mem_cons_self))
    obtain ⟨od, J⟩ : ∃ od, PySem.W.InstAt s.heap a oe D od := by
      have noCls : PySem.W.notCls oe := by
        obtain ⟨vs, hv⟩ := hf
        unfold PySem.W.notCls
        rw [hv] <;> trivial
      cases hd : d with
      | none => exact ⟨none, at_, hz.1, noCls, by rw [hz.2, hd] <;> trivial⟩
      | some dd =>
        obtain ⟨fs, hx⟩ := fields dd hd
        obtain ⟨mA, hns, _⟩ := (show ObjOk _ _ H s.heap dd (.xd fs) from I.hok dd _ hx)
        obtain ⟨od, ho, _⟩ := lookIn_ns hns
        exact ⟨some od, at_, hz.1, noCls, by rw [hz.2, hd]; exact ho⟩
    have is : (PySem.W.clsIn X.K D).isSome = true := by
      have z := C.hd
      unfold PySem.W.hasDictIn at z
      obtain ⟨cd, hc, _⟩ := PySem.W.any_some z
      rw [hc] <;> rfl
    exact PySem.W.kia_one (PySem.W.kitx_exc is C.hg C.hk C.hs C.ha C.hn C.ht C.hm) I.kIn J e nofun fun tk => ⟨.bl b, H, I.kept (t' := tk) fun _ _ z => z, rfl, q⟩
end Xci

namespace Xci
open PySem PySem.Spec PyProof.Rows L2
/-! written data in which names of known value stand -/
def tLitP (p : L2.St → Prop) (N : Out) (d : PyData) : TE := fun σ H Q => p σ ∧ Used N H ∧ ∀ v H', Same H H' → Dt N H' v d → Q v H'
def tLitsP (p : L2.St → Prop) (N : Out) (ds : List PyData) : TA := fun σ H Q => p σ ∧ Used N H ∧ ∀ vs H', Same H H' → DtAll N H' vs ds → Q vs H'
/-- the name in slot i is the whole number n -/
abbrev Slot (i : Nat) (n : Int) : L2.St → Prop := fun σ => σ[i]? = some (some (.int n))
section
variable {X : Cx} {N : Out} {e : Expr} {es : List Expr} {d : PyData} {ds : List PyData} {pos : Pos} {p : L2.St → Prop}
theorem litp_of (h : PE X e (tLit N d)) : PE X e (tLitP p N d) := PE.weak h fun σ H Q q => q.2
theorem litp_var {i : Nat} {n : Int} (h : PE X e (tVar i)) : PE X e (tLitP (Slot i n) N (.int n)) := PE.weak h fun σ H Q q => ⟨_, q.1, q.2.2 _ H (Same.refl H) (.int n)⟩
theorem litsp_nil : PA X [] (tLitsP p N []) := PA.weak pa_nil fun σ H Q q => q.2.2 [] H (Same.refl H) .nil
theorem litsp_cons (h : PE X e (tLitP p N d)) (r : PA X es (tLitsP p N ds)) (hs : starEach (e :: es) X.env = (false, eval e X.env) :: starEach es X.env := by rfl) : PA X (e :: es) (tLitsP p N (d :: ds)) :=
  PA.weak (pa_cons h r hs) fun σ H Q q => ⟨q.1, q.2.1, fun v H1 s1 dv => ⟨q.1, q.2.1.same s1, fun vs H2 s2 rs => q.2.2 (v :: vs) H2 (s1.trans s2) (.cons (dv.fr (FrO.same s2)) rs)⟩⟩
theorem litp_tup {x1} (h : PA X es (tLitsP p N ds)) (hl : ds.length ≤ 1000) : PE X (.Tuple es x1 pos) (tLitP p N (.tuple ds)) := PE.weak (pe_tup h) fun σ H Q q => ⟨q.1, q.2.1, fun vs H1 s1 r =>
  ⟨by rw [r.len]; exact Nat.le_of_lt (small1000 hl), fun t np => q.2.2 _ _ (s1.trans (Same.new np)) (.tup ((q.2.1.same s1).new np) upd_same (r.fr (FrO.same (Same.new np))))⟩⟩
theorem litp_lst (h : PA X es (tLitsP p N ds)) (hl : ds.length ≤ 1000) : PE X (.List es pos) (tLitP p N (.list ds)) := PE.weak (pe_lst h) fun σ H Q q => ⟨q.1, q.2.1, fun vs H1 s1 r =>
  ⟨by rw [r.len]; exact Nat.le_of_lt (small1000 hl), fun t np => q.2.2 _ _ (s1.trans (Same.new np)) (.lst ((q.2.1.same s1).new np) upd_same (r.fr (FrO.same (Same.new np))))⟩⟩
/-- a display whose first things are written and whose last is not -/
def tLitsAnd (N : Out) (ds : List PyData) (t : TE) : TA := fun σ H Q => Used N H ∧ ∀ vs H', Same H H' → DtAll N H' vs ds → t σ H' fun v H2 => Q (vs ++ [v]) H2
theorem litand_one {t : TE} (h : PE X e t) (hs : starEach [e] X.env = (false, eval e X.env) :: starEach [] X.env := by rfl) : PA X [e] (tLitsAnd N [] t) := PA.weak (pa_cons h pa_nil hs) fun σ H Q q => q.2 [] H (Same.refl H) .nil
theorem litand_cons {t : TE} (h : PE X e (tLit N d)) (r : PA X es (tLitsAnd N ds t)) (hs : starEach (e :: es) X.env = (false, eval e X.env) :: starEach es X.env := by rfl) : PA X (e :: es) (tLitsAnd N (d :: ds) t) :=
  PA.weak (pa_cons h r hs) fun σ H Q q => ⟨q.1, fun v H1 s1 dv => ⟨q.1.same s1, fun vs H2 s2 rs => q.2 (v :: vs) H2 (s1.trans s2) (.cons (dv.fr (FrO.same s2)) rs)⟩⟩
end
theorem ok_eitherX {CX : CXT} {P : Program} {w : World} {K : PySem.W.Frag} {mg : Str → Option Value} {base : Heap} {f : Addr} {fd : FuncData} {ps : List Str} {k : Nat} {sp sp' : Sp} (g : FnOk P w K mg base CX k f fd ps sp) (g' : FnOk P w K mg base CX k f fd ps sp') : FnOk P w K mg base CX k f fd ps (fun vs H Q E => sp vs H Q E ∨ sp' vs H Q E) :=
  ⟨fun vs H Q E h => h.elim (g.len vs H Q E) (g'.len vs H Q E), fun A outer s H args us vs Q E hr he hb hv hs => hs.elim (fun h => g.run A outer s H args us vs Q E hr he hb hv h) (fun h => g'.run A outer s H args us vs Q E hr he hb hv h)⟩
end Xci

namespace Xci
open PySem PySem.Spec PyProof.Rows L2
/-! written data, all of it new: whatever is kept out, none of its objects is -/
def New (H H' : Hp) (v : V) (d : PyData) : Prop := ∀ N : Out, Used N H → Dt N H' v d
def NewAll (H H' : Hp) (vs : List V) (ds : List PyData) : Prop := ∀ N : Out, Used N H → DtAll N H' vs ds
def tFl (d : PyData) : TE := fun _ H Q => ∀ v H', Same H H' → New H H' v d → Q v H'
def tFls (ds : List PyData) : TA := fun _ H Q => ∀ vs H', Same H H' → NewAll H H' vs ds → Q vs H'
section
variable {X : Cx} {e : Expr} {es : List Expr} {d : PyData} {ds : List PyData} {pos : Pos}
theorem fl_c {t : TE} {v : V} (h : PE X e t) (ht : t = tC v) (hd : ∀ N H, Dt N H v d) : PE X e (tFl d) := PE.weak h fun σ H Q q => by
  rw [ht]
  exact q v H (Same.refl H) fun N _ => hd N H
theorem fl_non {j : Nat} {p : Pos} : PE X (.Constant .none j p) (tFl .none) := fl_c pe_non rfl fun _ _ => .non
theorem fl_bl {b : Bool} {j : Nat} {p : Pos} : PE X (.Constant (.bool b) j p) (tFl (.bool b)) := fl_c pe_bl rfl fun _ _ => .bl b
theorem fl_int {i : Int} {j : Nat} {p : Pos} : PE X (.Constant (.int i) j p) (tFl (.int i)) := fl_c pe_int rfl fun _ _ => .int i
theorem fl_str {x : Str} {j : Nat} {p : Pos} : PE X (.Constant (.str x) j p) (tFl (.str x)) := fl_c pe_str rfl fun _ _ => .str x
theorem fl_neg {i : Int} {j : Nat} {p p2 : Pos} : PE X (.UnaryOp .USub (.Constant (.int i) j p) p2) (tFl (.int (-i))) := PE.weak (pe_un un_neg pe_int) fun σ H Q q => ⟨i, rfl, q _ H (Same.refl H) fun _ _ => .int _⟩
theorem fl_pow {i k : Int} {j j2 : Nat} {p p2 p3 : Pos} (h : 0 ≤ k ∧ k ≤ 1000000 ∧ i.natAbs < 2 ^ 64) : PE X (.BinOp (.Constant (.int i) j p) .Pow (.Constant (.int k) j2 p2) p3) (tFl (.int (i ^ k.toNat))) :=
  PE.weak (pe_op op_pow pe_int pe_int) fun σ H Q q => ⟨i, k, rfl, rfl, h, q _ H (Same.refl H) fun _ _ => .int _⟩
theorem fls_nil : PA X [] (tFls []) := PA.weak pa_nil fun σ H Q q => q [] H (Same.refl H) fun _ _ => .nil
theorem fls_cons (h : PE X e (tFl d)) (r : PA X es (tFls ds)) (hs : starEach (e :: es) X.env = (false, eval e X.env) :: starEach es X.env := by rfl) : PA X (e :: es) (tFls (d :: ds)) :=
  PA.weak (pa_cons h r hs) fun σ H Q q v H1 s1 dv vs H2 s2 rs => q (v :: vs) H2 (s1.trans s2) fun N u => .cons ((dv N u).fr (FrO.same s2)) (rs N (u.same s1))
theorem fl_tup {x1} (h : PA X es (tFls ds)) (hl : ds.length ≤ 1000) : PE X (.Tuple es x1 pos) (tFl (.tuple ds)) := PE.weak (pe_tup h) fun σ H Q q vs H1 s1 r =>
  ⟨by rw [(r (fun _ => False) fun _ z => z.elim).len]; exact Nat.le_of_lt (small1000 hl), fun t np => q _ _ (s1.trans (Same.new np)) fun N u => .tup ((u.same s1).new np) upd_same ((r N u).fr (FrO.same (Same.new np)))⟩
theorem fl_lst (h : PA X es (tFls ds)) (hl : ds.length ≤ 1000) : PE X (.List es pos) (tFl (.list ds)) := PE.weak (pe_lst h) fun σ H Q q vs H1 s1 r =>
  ⟨by rw [(r (fun _ => False) fun _ z => z.elim).len]; exact Nat.le_of_lt (small1000 hl), fun t np => q _ _ (s1.trans (Same.new np)) fun N u => .lst ((u.same s1).new np) upd_same ((r N u).fr (FrO.same (Same.new np)))⟩
theorem fl_dict0 : PE X (.Dict [] [] pos) (tFl (.dict [])) := PE.weak pe_dnewK fun σ H Q q p np => q _ _ (Same.new np) fun N u => .dic (kvs := []) (ds := []) (u.new np) upd_same .nil
end
end Xci

namespace Xci
open PySem L2

section
variable {P : Program} {w : World} {K : PySem.W.Frag} {mg : Str → Option Value} {base : Heap}
abbrev sLawTake : Stmt := top 31
theorem scLawTake : FnScope ["deck", "many", "digit", "one"] ["deck", "many"] (defScope sLawTake) := ⟨rfl, rfl, rfl, by decide +kernel, rfl, by decide +kernel, by decide +kernel⟩

theorem ok_take {f : Addr} {fd : FuncData} (F : Fun K "_law_take" "_law_take" sLawTake f fd) (T : Txt mg) : FnOk P w K mg base CX0 1 f fd ["deck", "many"] spTake := by
  refine F.ok scLawTake (fun vs H Q E h => ?_) (fun cdv A outer s H vs Q E hr h => ?_)
  · obtain ⟨a, l, m, rfl, _⟩ := h
    rfl
  · obtain ⟨a, l, m, rfl, ⟨ns, i, c, n, s, h1, hl, hal, hns, hi0, hil, hc0, hs0, hs1⟩, hm, hm2, k⟩ := h
    refine ⟨_, (pss_cons (ps_asg (pe_op op_add (pe_ix ix_list (pv 0) pe_int (fun _ _ => rfl)) pe_int) (pg_sub (pv 0) pe_int set_list))
      (C8.pss_cut (ps_if (PW.pt (pw_and (pt_cmpR op_eq (pe_ix ix_list (pv 0) pe_int (fun _ _ => rfl)) pe_int (nomark _)) (pw_and1 (pt_cmpR op_lt (pe_ix ix_list (pv 0) pe_int (fun _ _ => rfl)) (pe_callB call_len rfl T.len PySem.boot_len (pa_cons (pe_ix ix_list (pv 0) pe_int (fun _ _ => rfl)) pa_nil)) (nomark _))))) (pss_cons (ps_asg (pe_op op_add (pe_ix ix_list (pv 0) pe_int (fun _ _ => rfl)) pe_int) (pg_sub (pv 0) pe_int set_list))
      (pss_cons (ps_asg (pe_ix ix_list (pe_ix ix_list (pv 0) pe_int (fun _ _ => rfl)) (pe_op op_sub (pe_ix ix_list (pv 0) pe_int (fun _ _ => rfl)) pe_int) (fun _ _ => rfl)) (pg_sub (pv 0) pe_int set_list))
      (pss_one (ps_if (pt_cmpR op_lt (pe_ix ix_list (pv 0) pe_int (fun _ _ => rfl)) (pe_op op_pow pe_int pe_int) (nomark _)) (pss_cons (ps_asg (pe_op op_mod (pe_callTy call_int1 rfl T.int (by decide +kernel) (pa_cons (pe_op op_add (pe_op op_add (pe_op op_mul (pe_ix ix_list (pv 0) pe_int (fun _ _ => rfl)) pe_int) (pe_ix ix_list (pv 0) pe_int (fun _ _ => rfl))) pe_int) pa_nil)) pe_int) (pg_sub (pv 0) pe_int set_list))
      (pss_one (ps_asg pe_int (pg_sub (pv 0) pe_int set_list)))) pss_nil)))) pss_nil)
      (C8.pss_cut (ps_if (pt_cmpR op_gt (pe_ix ix_list (pv 0) pe_int (fun _ _ => rfl)) pe_int (nomark _)) (pss_cons (ps_set (i := 2) scLawTake.nd rfl (by first | exact Or.inl rfl | exact Or.inr rfl) (pe_op op_mod (pe_callTy call_int1 rfl T.int (by decide +kernel) (pa_cons (pe_ix ix_list (pv 0) pe_int (fun _ _ => rfl)) pa_nil)) (pv 1)))
      (pss_cons (ps_asg (pe_op op_fdiv (pe_ix ix_list (pv 0) pe_int (fun _ _ => rfl)) (pv 1)) (pg_sub (pv 0) pe_int set_list))
      (pss_one (ps_ret (pv 2))))) pss_nil)
      (C8.pss_cut (ps_set (i := 3) scLawTake.nd rfl (by first | exact Or.inl rfl | exact Or.inr rfl) (pe_op op_mod (pe_callTy call_int1 rfl T.int (by decide +kernel) (pa_cons (pe_op op_mul (pe_op op_add (pe_op op_add (pe_ix ix_list (pv 0) pe_int (fun _ _ => rfl)) (pe_op op_mul pe_int (pe_ix ix_list (pv 0) pe_int (fun _ _ => rfl)))) pe_int) pe_int) pa_nil)) pe_int))
      (C8.pss_cut (ps_set (i := 3) scLawTake.nd rfl (by first | exact Or.inl rfl | exact Or.inr rfl) (pe_op op_mod (pe_callTy call_int1 rfl T.int (by decide +kernel) (pa_cons (pe_op op_mul (pv 3) (pe_op op_add (pe_op op_fdiv (pv 3) pe_int) pe_int)) pa_nil)) pe_int))
      (C8.pss_cut (ps_set (i := 3) scLawTake.nd rfl (by first | exact Or.inl rfl | exact Or.inr rfl) (pe_op op_mod (pe_callTy call_int1 rfl T.int (by decide +kernel) (pa_cons (pe_op op_mul (pv 3) (pe_op op_add (pe_op op_fdiv (pv 3) pe_int) pe_int)) pa_nil)) pe_int))
      (pss_one (ps_ret (pe_op op_mod (pe_callTy call_int1 rfl T.int (by decide +kernel) (pa_cons (pe_op op_fdiv (pv 3) pe_int) pa_nil)) (pv 1)))))))))), ?_⟩
    refine ⟨_, rfl, a, _, _, _, rfl, rfl, SqL.of h1, at_of (j := 3) rfl rfl, _, _, rfl, rfl, _, rfl, a, _, _, 3, rfl, rfl, h1, rfl, ?_⟩
    generalize hH2 : upd H a _ = H2
    have e2 : H2 a = some (.lst [.ref l, .int i, .int c, .int (n + 1), .int s]) := by rw [← hH2]; exact upd_same
    have o2 : ∀ b, b ≠ a → H2 b = H b := fun b hb => by rw [← hH2]; exact upd_ne hb
    clear hH2
    refine ⟨fun σ' H3 => σ' = [some (.ref a), some (.int m), none, none] ∧ ∃ (i c n s : Int), H3 a = some (.lst [.ref l, .int i, .int c, .int n, .int s]) ∧ 0 ≤ i ∧ i ≤ (ns.length : Int) ∧ 0 ≤ c ∧ 0 ≤ s ∧ s < 2147483647 ∧ ∀ b, b ≠ a → H3 b = H b, ?_, ?_⟩
    · refine ⟨_, rfl, a, _, _, _, rfl, rfl, SqL.of e2, at_of (j := 2) rfl rfl, rfl, _, rfl, ?_⟩
      refine ite2 (fun hc => ?_) (fun _ => ?_)
      · have hc : c = 0 := by simpa using hc
        have hl2 : H2 l = some (.lst (ns.map V.int)) := by rw [o2 l (Ne.symm hal)]; exact hl
        refine ⟨_, rfl, a, _, _, _, rfl, rfl, SqL.of e2, at_of (j := 1) rfl rfl, _, rfl, a, _, _, _, rfl, rfl, SqL.of e2, at_of (j := 0) rfl rfl, _, _, rfl, .inl ⟨_, SqL.of hl2, rfl⟩, _, _, rfl, rfl, _, rfl, ?_⟩
        refine ite2 (fun hi => ?_) (fun _ => ?_)
        · have hi : i < (ns.length : Int) := by simpa using hi
          refine ⟨_, rfl, a, _, _, _, rfl, rfl, SqL.of e2, at_of (j := 1) rfl rfl, _, _, rfl, rfl, _, rfl, a, _, _, 1, rfl, rfl, e2, rfl, ?_⟩
          generalize hH3 : upd H2 a _ = H3
          have e3 : H3 a = some (.lst [.ref l, .int (i + 1), .int c, .int (n + 1), .int s]) := by rw [← hH3]; exact upd_same
          have o3 : ∀ b, b ≠ a → H3 b = H b := fun b hb => by rw [← hH3, upd_ne hb]; exact o2 b hb
          clear hH3
          have hl3 : H3 l = some (.lst (ns.map V.int)) := by rw [o3 l (Ne.symm hal)]; exact hl
          obtain ⟨j, ej⟩ : ∃ j : Nat, i = (j : Int) := ⟨i.toNat, by omega⟩
          have hj : j < ns.length := by omega
          have hnz : 0 ≤ ns[j] := hns _ (List.getElem_mem hj)
          refine ⟨_, rfl, a, _, _, _, rfl, rfl, SqL.of e3, at_of (j := 0) rfl rfl, _, rfl, a, _, _, _, rfl, rfl, SqL.of e3, at_of (j := 1) rfl rfl, _, _, rfl, rfl, l, _, _, _, rfl, rfl, SqL.of hl3, at_of (j := j) (v := V.int ns[j]) (by omega) (by rw [List.getElem?_map, List.getElem?_eq_getElem hj]; rfl), _, rfl, a, _, _, 2, rfl, rfl, e3, rfl, ?_⟩
          generalize hH4 : upd H3 a _ = H4
          generalize hz : ns[j] = z at *
          have e4 : H4 a = some (.lst [.ref l, .int (i + 1), .int z, .int (n + 1), .int s]) := by rw [← hH4]; exact upd_same
          have o4 : ∀ b, b ≠ a → H4 b = H b := fun b hb => by rw [← hH4, upd_ne hb]; exact o3 b hb
          clear hH4
          refine ⟨_, rfl, a, _, _, _, rfl, rfl, SqL.of e4, at_of (j := 2) rfl rfl, _, _, rfl, rfl, ⟨by decide, by decide, by decide⟩, _, _, rfl, rfl, _, rfl, ?_⟩
          refine ite2 (fun _ => ?_) (fun _ => ?_)
          · refine ⟨_, rfl, a, _, _, _, rfl, rfl, SqL.of e4, at_of (j := 4) rfl rfl, _, _, rfl, rfl, .inr ⟨by decide, by decide⟩, _, rfl, a, _, _, _, rfl, rfl, SqL.of e4, at_of (j := 2) rfl rfl, _, _, rfl, rfl, _, _, rfl, rfl, .inl ⟨_, rfl, _, _, rfl, rfl, (by show (0 : Int) < 2147483647; decide), _, rfl, a, _, _, 4, rfl, rfl, e4, rfl, ?_⟩⟩
            refine ⟨_, rfl, a, _, _, 2, rfl, rfl, upd_same, rfl, rfl, ?_⟩
            obtain ⟨b1, b2⟩ := mod_bd (s * 69621 + z + 1) (m := 2147483647) (by decide)
            exact ⟨i + 1, 0, n + 1, _, upd_same, by omega, by omega, by decide, b1, b2, fun b hb => by rw [upd_ne hb, upd_ne hb]; exact o4 b hb⟩
          · exact ⟨rfl, i + 1, z, n + 1, s, e4, by omega, by omega, hnz, hs0, hs1, o4⟩
        · exact ⟨rfl, i, c, n + 1, s, e2, hi0, hil, hc0, hs0, hs1, o2⟩
      · exact ⟨rfl, i, c, n + 1, s, e2, hi0, hil, hc0, hs0, hs1, o2⟩
    · rintro σ' H3 ⟨rfl, i, c, n, s, e3, hi0, hil, hc0, hs0, hs1, o3⟩
      have fin : ∀ (d i c n s : Int) (H' : Hp), 0 ≤ d → d < m → H' a = some (.lst [.ref l, .int i, .int c, .int n, .int s]) → 0 ≤ i → i ≤ (ns.length : Int) → 0 ≤ c → 0 ≤ s → s < 2147483647 → (∀ b, b ≠ a → H' b = H b) → Q (.int d) H' :=
        fun d i c n s H' d0 d1 e i0 i1 c0 s0 s1 o => k d H' d0 d1 ⟨ns, i, c, n, s, e, by rw [o l (Ne.symm hal)]; exact hl, hal, hns, i0, i1, c0, s0, s1⟩ (fun b u h hb => by rw [o b hb]; exact h) o
      refine ⟨fun σ' H4 => σ' = [some (.ref a), some (.int m), none, none] ∧ H4 = H3, ?_, ?_⟩
      · refine ⟨_, rfl, a, _, _, _, rfl, rfl, SqL.of e3, at_of (j := 2) rfl rfl, _, _, rfl, rfl, _, rfl, ?_⟩
        refine ite2 (fun _ => ?_) (fun _ => ⟨rfl, rfl⟩)
        obtain ⟨b1, b2⟩ := mod_bd c hm
        refine ⟨_, rfl, a, _, _, _, rfl, rfl, SqL.of e3, at_of (j := 2) rfl rfl, .inl ⟨_, rfl, _, rfl, _, _, rfl, rfl, hm, ?_⟩⟩
        refine ⟨_, rfl, a, _, _, _, rfl, rfl, SqL.of e3, at_of (j := 2) rfl rfl, _, rfl, _, _, rfl, rfl, ⟨hm, hm2⟩, _, rfl, a, _, _, 2, rfl, rfl, e3, rfl, _, rfl, ?_⟩
        exact fin _ i (c / m) n s _ b1 b2 upd_same hi0 hil (Int.ediv_nonneg hc0 (by omega)) hs0 hs1 fun b hb => by rw [upd_ne hb]; exact o3 b hb
      · rintro σ' H4 ⟨rfl, rfl⟩
        have bd : ∀ x : Int, 0 ≤ x % 2147483647 ∧ x % 2147483647 < 2147483647 := fun x => mod_bd x (by decide)
        have bd2 : ∀ x : Int, 0 ≤ x % 2147483399 ∧ x % 2147483399 < 2147483399 := fun x => mod_bd x (by decide)
        refine ⟨fun σ' H5 => ∃ x : Int, 0 ≤ x ∧ x < 2147483647 ∧ σ' = [some (.ref a), some (.int m), none, some (.int x)] ∧ H5 = H4, ?_, ?_⟩
        · refine ⟨_, rfl, a, _, _, _, rfl, rfl, SqL.of e3, at_of (j := 4) rfl rfl, _, rfl, a, _, _, _, rfl, rfl, SqL.of e3, at_of (j := 3) rfl rfl, _, _, rfl, rfl, .inl ⟨by decide, by decide⟩, _, _, rfl, rfl, _, _, rfl, rfl, _, _, rfl, rfl, .inr ⟨by decide, by decide⟩, .inl ⟨_, rfl, _, _, rfl, rfl, (by show (0 : Int) < 2147483647; decide), ?_⟩⟩
          exact ⟨_, (bd _).1, (bd _).2, rfl, rfl⟩
        rintro σ' H5 ⟨x1, q1, q1', rfl, rfl⟩
        refine ⟨fun σ' H5' => ∃ x : Int, 0 ≤ x ∧ x < 2147483647 ∧ σ' = [some (.ref a), some (.int m), none, some (.int x)] ∧ H5' = H5, ?_, ?_⟩
        · refine ⟨_, rfl, _, rfl, _, _, rfl, rfl, ⟨by decide, by decide⟩, _, _, rfl, rfl, _, _, rfl, rfl, .inl ⟨by omega, by omega⟩, .inl ⟨_, rfl, _, _, rfl, rfl, (by show (0 : Int) < 2147483647; decide), ?_⟩⟩
          exact ⟨_, (bd _).1, (bd _).2, rfl, rfl⟩
        rintro σ' H6 ⟨x2, q2, q2', rfl, rfl⟩
        refine ⟨fun σ' H5' => ∃ x : Int, σ' = [some (.ref a), some (.int m), none, some (.int x)] ∧ H5' = H6, ?_, ?_⟩
        · refine ⟨_, rfl, _, rfl, _, _, rfl, rfl, ⟨by decide, by decide⟩, _, _, rfl, rfl, _, _, rfl, rfl, .inl ⟨by omega, by omega⟩, .inl ⟨_, rfl, _, _, rfl, rfl, (by show (0 : Int) < 2147483399; decide), ?_⟩⟩
          exact ⟨_, rfl, rfl⟩
        rintro σ' H7 ⟨x3, rfl, rfl⟩
        refine ⟨_, rfl, _, _, rfl, rfl, ⟨by decide, by decide⟩, .inl ⟨_, rfl, _, rfl, _, _, rfl, rfl, hm, ?_⟩⟩
        obtain ⟨b1, b2⟩ := mod_bd (x3 / 32) hm
        exact fin _ i c n s _ b1 b2 e3 hi0 hil hc0 hs0 hs1 o3
end
end Xci

namespace Xci
open PySem L2

section
variable {P : Program} {w : World} {K : PySem.W.Frag} {mg : Str → Option Value} {base : Heap}
abbrev sLawDeck : Stmt := top 30
theorem scLawDeck : FnScope ["script", "state", "cell"] ["script"] (defScope sLawDeck) := ⟨rfl, rfl, rfl, by decide +kernel, rfl, by decide +kernel, by decide +kernel⟩

theorem ok_deck {f : Addr} {fd : FuncData} (F : Fun K "_law_deck" "_law_deck" sLawDeck f fd) (T : Txt mg) : FnOk P w K mg base CX0 1 f fd ["script"] (spDeck K) := by
  refine F.ok scLawDeck (fun vs H Q E h => ?_) (fun cdv A outer s H vs Q E hr h => ?_)
  · obtain ⟨a, m, rfl, _⟩ := h
    rfl
  · obtain ⟨a, ns, rfl, hS, hlen, k⟩ := h
    refine ⟨_, (pss_cons (ps_set (i := 1) scLawDeck.nd rfl (by first | exact Or.inl rfl | exact Or.inr rfl) (pe_op op_add (pe_callB call_len rfl T.len PySem.boot_len (pa_cons (pv 0) pa_nil)) pe_int))
      (pss_cons (ps_for PassesOwn.never rfl (pi_list (pe_slice sl_list (pv 0) po_none (po_some pe_int))) (pg_name (i := 2) scLawDeck.nd rfl (by first | exact Or.inl rfl | exact Or.inr rfl)) (pss_one (ps_set (i := 1) scLawDeck.nd rfl (by first | exact Or.inl rfl | exact Or.inr rfl) (pe_op op_mod (pe_callTy call_int1 rfl T.int (by decide +kernel) (pa_cons (pe_op op_add (pe_op op_add (pe_op op_mul (pv 1) pe_int) (pe_op op_mul (pe_callTy call_int1 rfl T.int (by decide +kernel) (pa_cons (pv 2) pa_nil)) pe_int)) pe_int) pa_nil)) pe_int))))
      (pss_one (ps_ret (pe_lst (pa_cons (pe_lc (own := [("cell", 2)]) rfl scLawDeck.nd (pi_list (pe_slice sl_list (pv 0) po_none (po_some pe_int))) (blkOk_by (N := ["script", "state", "cell"]) (sc := defScope sLawDeck) (by decide +kernel)) (fun _ _ _ _ _ => (pg_name (i := 2) scLawDeck.nd rfl (by first | exact Or.inl rfl | exact Or.inr rfl))) (fun _ _ _ _ _ => pts_nil) (fun _ _ _ _ _ => (pe_callB call_abs rfl T.abs (by decide +kernel) (pa_cons (pe_callTy call_int1 rfl T.int (by decide +kernel) (pa_cons (pv 2) pa_nil)) pa_nil)))) (pa_cons pe_int (pa_cons pe_int (pa_cons pe_int (pa_cons (pv 1) pa_nil)))))))))), ?_⟩
    refine ⟨_, rfl, _, _, rfl, .inl ⟨_, hS, rfl⟩, _, _, rfl, rfl, ?_⟩
    refine ⟨_, rfl, _, rfl, _, _, rfl, hS, fun p hp => ⟨_, rfl, ⟨_, SqL.of upd_same⟩, ?_⟩⟩
    have sp0 : Same H (upd H p (.lst (cutV (ns.map V.int) none (some 63)))) := Same.new hp
    generalize hH1 : upd H p (.lst (cutV (ns.map V.int) none (some 63))) = H1 at sp0
    have e1 : H1 p = some (.lst ((ns.take 63).map V.int)) := by rw [← hH1, cut63]; exact upd_same
    clear hH1
    refine for_list (K := K) (a := p) (xs := (ns.take 63).map V.int) (fun i σ H2 => H2 = H1 ∧ ∃ (z : Int) (v : Option V), σ = [some (.ref a), some (.int z), v] ∧ (0 ≤ z ∧ z < 2147483647 ∨ z = (ns.length : Int) + 1)) ⟨rfl, _, none, rfl, .inr (by simp)⟩ (fun i σ H2 _ ⟨e, _⟩ => by rw [e]; exact SqL.of e1) ?_ ?_
    · rintro i y σ H2 hi ⟨rfl, z, v, rfl, hz⟩
      obtain ⟨c, hc, rfl⟩ := int_of hi
      refine ⟨_, rfl, _, _, rfl, rfl, .inr ⟨by decide, by decide⟩, _, rfl, .inl ⟨_, rfl, _, _, rfl, rfl, .inr ⟨by decide, by decide⟩, _, _, rfl, rfl, _, _, rfl, rfl, .inl ⟨_, rfl, _, _, rfl, rfl, (by show (0 : Int) < 2147483647; decide), ?_⟩⟩⟩
      obtain ⟨b1, b2⟩ := mod_bd (z * 48271 + c * 69621 + 7) (m := 2147483647) (by decide)
      exact ⟨rfl, _, some (.int c), rfl, .inl ⟨b1, b2⟩⟩
    · rintro σ H2 ⟨rfl, z, v, rfl, hz⟩
      have hS2 : SqL K H2 a (ns.map V.int) := sp0.seq hS
      refine ⟨_, rfl, _, rfl, _, _, rfl, hS2, fun p2 hp2 => ⟨_, rfl, ⟨_, SqL.of upd_same⟩, ?_⟩⟩
      intro D hD
      have sp1 : Same H2 (upd H2 p2 (.lst (cutV (ns.map V.int) none (some 63)))) := Same.new hp2
      generalize hH3 : upd H2 p2 (.lst (cutV (ns.map V.int) none (some 63))) = H3 at sp1 hD
      have e3 : H3 p2 = some (.lst ((ns.take 63).map V.int)) := by rw [← hH3, cut63]; exact upd_same
      clear hH3
      have nD : p2 ≠ D := ne_of_none e3 hD
      refine lc_list (K := K) (a := p2) (xs := (ns.take 63).map V.int) (fun i H4 => ∃ zs : List Int, Same H3 H4 ∧ H4 D = some (.lst (zs.map V.int)) ∧ zs.length = i ∧ ∀ z ∈ zs, 0 ≤ z) ⟨[], Same.new hD, upd_same, rfl, by simp⟩ (fun i H4 _ ⟨_, e, _⟩ => SqL.of (e _ _ e3)) ?_ ?_
      · rintro i y H4 hi ⟨zs, sm, e4, hz4, hpos⟩
        obtain ⟨c, hc, rfl⟩ := int_of hi
        have hi63 : i < 63 := by
          have q := (List.getElem?_eq_some_iff.mp hc).1
          rw [List.length_take] at q
          omega
        refine ⟨rfl, _, rfl, .inl ⟨_, rfl, _, rfl, _, e4, by rw [List.length_map, hz4]; exact small1000 (by omega), ?_⟩⟩
        refine ⟨zs ++ [if c < 0 then -c else c], fun b o h => ?_, by rw [upd_same, List.map_append]; rfl, by rw [List.length_append, hz4]; rfl, fun z hz => ?_⟩
        · rw [upd_ne (ne_of_none h hD)]; exact sm b o h
        · rcases List.mem_append.mp hz with q | q
          · exact hpos z q
          · rw [List.mem_singleton.mp q]
            split <;> omega
      · rintro H4 ⟨zs, sm, e4, hz4, hpos⟩
        refine ⟨_, rfl, (by show 5 ≤ sizeLine; decide), fun q hq => ?_⟩
        refine k q D _ ⟨zs, 0, 0, 0, z, upd_same, ?_, ?_, hpos, by omega, by omega, by omega, by omega, by omega⟩ ?_
        · rw [upd_ne (ne_of_none e4 hq)]; exact e4
        · exact (ne_of_none e4 hq).symm
        · exact fun b o h => by rw [upd_ne (ne_of_none (sm _ _ (sp1 _ _ (sp0 _ _ h))) hq)]; exact sm _ _ (sp1 _ _ (sp0 _ _ h))
end
end Xci

namespace Xci
open PySem L2

section
variable {P : Program} {w : World} {K : PySem.W.Frag} {mg : Str → Option Value} {base : Heap}
abbrev sIsInteger : Stmt := top 8
theorem scIsInteger : FnScope ["thing"] ["thing"] (defScope sIsInteger) := ⟨rfl, rfl, rfl, by decide +kernel, rfl, by decide +kernel, by decide +kernel⟩

theorem ok_integer {f : Addr} {fd : FuncData} (F : Fun K "is_integer" "is_integer" sIsInteger f fd) (T : Txt mg) : FnOk P w K mg base CX0 1 f fd ["thing"] spIsInteger := by
  refine F.ok scIsInteger (fun vs H Q E h => ?_) (fun cdv A outer s H vs Q E hr h => ?_)
  · obtain ⟨i, rfl, _⟩ := h
    rfl
  · obtain ⟨i, rfl, k⟩ := h
    refine ⟨_, (pss_one (ps_ret (pe_and (pe_callB call_isi rfl T.isinstance (by decide +kernel) (pa_cons (pv 0) (pa_cons (pe_bltn rfl T.int (by decide +kernel) (v := V.ty "int") rfl) pa_nil))) (pe_one (pe_not (pe_callB call_isi rfl T.isinstance (by decide +kernel) (pa_cons (pv 0) (pa_cons (pe_bltn rfl T.bool (by decide +kernel) (v := V.ty "bool") rfl) pa_nil)))))))), ?_⟩
    refine ⟨_, rfl, _, _, _, _, true, rfl, .ty _, .base (.int _), kit_ty (by decide +kernel), _, rfl, ?_⟩
    exact ⟨_, rfl, _, _, _, _, false, rfl, .ty _, .base (.int _), kit_ty (by decide +kernel), _, rfl, k⟩
abbrev sIsBetween : Stmt := top 9
theorem scIsBetween : FnScope ["low", "high", "thing"] ["low", "high", "thing"] (defScope sIsBetween) := ⟨rfl, rfl, rfl, by decide +kernel, rfl, by decide +kernel, by decide +kernel⟩

theorem ok_between {f : Addr} {fd : FuncData} (F : Fun K "is_between" "is_between" sIsBetween f fd) (HI : Has P w K mg base "is_integer" ["thing"] 1 spIsInteger) : FnOk P w K mg base CX0 2 f fd ["low", "high", "thing"] spBetween := by
  refine F.ok scIsBetween (fun vs H Q E h => ?_) (fun cdv A outer s H vs Q E hr h => ?_)
  · obtain ⟨lo, hi, x, rfl, _⟩ := h
    rfl
  · obtain ⟨lo, hi, x, rfl, k⟩ := h
    refine ⟨_, (pss_one (ps_ret (pe_and (pe_callH HI (hr.mono (by decide)) rfl (pa_cons (pv 2) pa_nil)) (pe_one (pe_chain op_le op_le (pv 0) (pv 2) (pv 1)))))), ?_⟩
    refine ⟨_, rfl, x, rfl, _, rfl, ?_⟩
    refine ⟨_, rfl, _, rfl, _, _, rfl, rfl, _, rfl, ?_⟩
    refine ite2 (fun h1 => ?_) (fun h1 => ?_)
    · have h1' : lo ≤ x := of_decide_eq_true h1
      refine ⟨_, rfl, _, _, rfl, rfl, ?_⟩
      have e : decide (lo ≤ x ∧ x ≤ hi) = decide (x ≤ hi) := by simp [h1']
      rw [e] at k
      exact k
    · have h1' : ¬ lo ≤ x := fun q => h1 (decide_eq_true q)
      have e : decide (lo ≤ x ∧ x ≤ hi) = false := by simp [h1']
      rw [e] at k
      exact k
abbrev sIsCell : Stmt := top 10
theorem scIsCell : FnScope ["many", "thing", "lowest", "mark"] ["many", "thing"] (defScope sIsCell) := ⟨rfl, rfl, rfl, by decide +kernel, rfl, by decide +kernel, by decide +kernel⟩

theorem ok_cell {f : Addr} {fd : FuncData} (F : Fun K "is_cell" "is_cell" sIsCell f fd) (T : Txt mg) (HB : Has P w K mg base "is_between" ["low", "high", "thing"] 2 spBetween) : FnOk P w K mg base CX0 3 f fd ["many", "thing"] spIsCell := by
  refine F.ok scIsCell (fun vs H Q E h => ?_) (fun cdv A outer s H vs Q E hr h => ?_)
  · obtain ⟨n, v, ms, rfl, _⟩ := h
    rfl
  · obtain ⟨n, v, ms, rfl, ⟨p, rfl, hp⟩, ok, k⟩ := h
    refine ⟨_, (pss_cons (ps_if (pt_not (pt_val (pe_callB call_isi rfl T.isinstance (by decide +kernel) (pa_cons (pv 1) (pa_cons (pe_bltn rfl T.tuple (by decide +kernel) (v := V.ty "tuple") rfl) pa_nil))))) (pss_one (ps_ret pe_bl)) pss_nil)
      (pss_cons (ps_set (i := 2) scIsCell.nd rfl (by first | exact Or.inl rfl | exact Or.inr rfl) pe_int)
      (pss_cons (ps_for PassesOwn.never rfl (pi_tup (pv 1)) (pg_name (i := 3) scIsCell.nd rfl (by first | exact Or.inl rfl | exact Or.inr rfl)) (pss_cons (ps_if (pt_not (pt_val (pe_callH HB (hr.mono (by decide)) rfl (pa_cons (pv 2) (pa_cons (pe_op op_sub (pv 0) pe_int) (pa_cons (pv 3) pa_nil)))))) (pss_one (ps_ret pe_bl)) pss_nil)
      (pss_one (ps_set (i := 2) scIsCell.nd rfl (by first | exact Or.inl rfl | exact Or.inr rfl) (pe_op op_add (pv 3) pe_int)))))
      (pss_one (ps_ret pe_bl))))), ?_⟩
    refine ⟨_, rfl, _, _, _, _, true, rfl, .ty _, .base (.tup hp), kit_ty (by decide +kernel), _, rfl, ?_⟩
    refine iteF ?_
    refine ⟨_, rfl, p, rfl, ⟨_, sqT hp⟩, for_tup (K := K) (a := p) (xs := ms.map V.int) (fun i σ H2 => H2 = H ∧ ∃ (z : Int) (v : Option V), σ = [some (.int n), some (.ref p), some (.int z), v] ∧ ∀ m, ms[i]? = some m → z ≤ m) ⟨rfl, 0, none, rfl, fun m hm => ok.lo m (List.mem_of_getElem? hm)⟩ (fun i σ H2 _ ⟨e, _⟩ => by rw [e]; exact sqT hp) ?_ ?_⟩
    · rintro i y σ H2 hi ⟨rfl, z, v, rfl, hz⟩
      obtain ⟨m, hm, rfl⟩ := int_of hi
      have mem := List.mem_of_getElem? hm
      have h1 := hz m hm
      have h2 := ok.hi m mem
      refine ⟨_, rfl, _, rfl, _, _, rfl, rfl, _, rfl, _, _, m, rfl, _, rfl, ?_⟩
      have e : decide (z ≤ m ∧ m ≤ n - 1) = true := decide_eq_true ⟨h1, by omega⟩
      refine ite2 (fun hf => ?_) (fun _ => ?_)
      · have hf' : (!decide (z ≤ m ∧ m ≤ n - 1)) = true := hf
        rw [e] at hf'
        cases hf'
      · refine ⟨_, rfl, _, _, rfl, rfl, ?_⟩
        refine ⟨rfl, m + 1, _, rfl, fun m' hm' => ?_⟩
        have hlt1 := (List.getElem?_eq_some_iff.mp hm)
        have hlt2 := (List.getElem?_eq_some_iff.mp hm')
        obtain ⟨l1, e1⟩ := hlt1
        obtain ⟨l2, e2⟩ := hlt2
        have := List.pairwise_iff_getElem.mp ok.up i (i + 1) l1 l2 (Nat.lt_succ_self i)
        omega
    · rintro σ H2 ⟨rfl, z, v, rfl, hz⟩
      exact k
abbrev sAreCells : Stmt := top 21
theorem scAreCells : FnScope ["many", "thing", "cell"] ["many", "thing"] (defScope sAreCells) := ⟨rfl, rfl, rfl, by decide +kernel, rfl, by decide +kernel, by decide +kernel⟩

theorem ok_areCells {f : Addr} {fd : FuncData} (F : Fun K "_are_cells" "_are_cells" sAreCells f fd) (T : Txt mg) (TS : mg "set" = none) (c : FamCst mg) (HC : Has P w K mg base "is_cell" ["many", "thing"] 3 spIsCell) : FnOk P w K mg base CX0 4 f fd ["many", "thing"] spAreCells := by
  refine F.ok scAreCells (fun vs H Q E h => ?_) (fun cdv A outer s H vs Q E hr h => ?_)
  · obtain ⟨many, p, ys, cells, rfl, _⟩ := h
    rfl
  · obtain ⟨many, p, ys, cells, rfl, hp, each, ok, k⟩ := h
    refine ⟨_, (pss_cons (ps_if (PW.pt (pw_or (pt_not (pt_val (pe_callB call_isi rfl T.isinstance (by decide +kernel) (pa_cons (pv 1) (pa_cons (pe_bltn rfl T.tuple (by decide +kernel) (v := V.ty "tuple") rfl) pa_nil))))) (pw_or1 (pt_not (pt_chain op_le op_le pe_int (pe_callB call_len rfl T.len PySem.boot_len (pa_cons (pv 1) pa_nil)) (pe_gint rfl c.MOST_CELLS)))))) (pss_one (ps_ret pe_bl)) pss_nil)
      (pss_cons (ps_for PassesOwn.never rfl (pi_tup (pv 1)) (pg_name (i := 2) scAreCells.nd rfl (by first | exact Or.inl rfl | exact Or.inr rfl)) (pss_one (ps_if (pt_not (pt_val (pe_callH HC (hr.mono (by decide)) rfl (pa_cons (pv 0) (pa_cons (pv 2) pa_nil))))) (pss_one (ps_ret pe_bl)) pss_nil)))
      (pss_one (ps_ret (pe_cmpR op_eq (pe_lenSetT rfl (hu64 hr) rfl T.len rfl TS (pv 1)) (pe_callB call_len rfl T.len PySem.boot_len (pa_cons (pv 1) pa_nil)) (nomark _)))))), ?_⟩
    have len := Paired.length each
    have pos : 0 < cells.length := List.length_pos_iff.mpr ok.ne
    have few := ok.len
    refine ⟨_, rfl, _, _, _, _, true, rfl, .ty _, .base (.tup hp), kit_ty (by decide +kernel), _, rfl, ?_⟩
    refine iteF ?_
    refine ⟨_, rfl, _, ys.length, rfl, .inr ⟨_, sqT hp, rfl⟩, _, _, rfl, rfl, _, rfl, ?_⟩
    refine ite2 (fun _ => ?_) (fun no => absurd (decide_eq_true (show (1 : Int) ≤ ((ys.length : Nat) : Int) by omega)) no)
    refine ⟨_, _, rfl, rfl, _, rfl, ?_⟩
    refine ite2 (fun no => ?_) (fun _ => ?_)
    · have no' : (!decide (((ys.length : Nat) : Int) ≤ (24 : Int))) = true := no
      rw [decide_eq_true (show ((ys.length : Nat) : Int) ≤ (24 : Int) by omega)] at no'
      cases no'
    refine ⟨_, rfl, p, rfl, ⟨_, sqT hp⟩, for_tup (K := K) (a := p) (xs := ys) (fun i σ H2 => H2 = H ∧ ∃ v : Option V, σ = [some (.int many), some (.ref p), v]) ⟨rfl, none, rfl⟩ (fun i σ H2 _ ⟨e, _⟩ => by rw [e]; exact sqT hp) ?_ ?_⟩
    · rintro i y σ H2 hi ⟨rfl, v, rfl⟩
      obtain ⟨ms, at_, told⟩ := Paired.get each hi
      refine ⟨_, rfl, _, rfl, many, y, ms, rfl, told, ok.ok ms (List.mem_of_getElem? at_), _, rfl, ?_⟩
      exact iteF ⟨rfl, _, rfl⟩
    · rintro σ H2 ⟨rfl, v, rfl⟩
      obtain ⟨ks, e1, e2, e3⟩ := Mks.placed (K := K) each
      have same : ks.length = ys.length := by rw [e1, List.length_map]
      refine ⟨_, rfl, p, ks, rfl, (by rw [← e1]; exact sqT hp), e3, (by omega), fun n _ all => ?_⟩
      have full : n = ks.length := all.mpr (by rw [e2]; exact ok.nd)
      refine ⟨_, rfl, _, ys.length, rfl, .inr ⟨_, sqT hp, rfl⟩, ?_⟩
      rw [full, same]
      refine ⟨rfl, ?_⟩
      rw [decide_eq_true (show V.int ((ys.length : Nat) : Int) = V.int ((ys.length : Nat) : Int) from rfl)]
      exact k
abbrev sFamilyInit : Stmt := inClass (top 20) 0
theorem scFamilyInit : FnScope ["self", "many", "cells"] ["self", "many", "cells"] (defScope sFamilyInit) := ⟨rfl, rfl, rfl, by decide +kernel, rfl, by decide +kernel, by decide +kernel⟩

theorem ok_fam {f C : Addr} {fd : FuncData} (F : Fun K "__init__" "Family.__init__" sFamilyInit f fd) (T : Txt mg) (c : FamCst mg) (FT : FamTxt K mg C) (HB : Has P w K mg base "is_between" ["low", "high", "thing"] 2 spBetween) (HA : Has P w K mg base "_are_cells" ["many", "thing"] 4 spAreCells) :
    FnOk P w K mg base CX0 5 f fd ["self", "many", "cells"] (spFam C) := by
  refine F.ok scFamilyInit (fun vs H Q E h => ?_) (fun cdv A outer s H vs Q E hr h => ?_)
  · obtain ⟨x, dx, many, p, ys, cells, rfl, _⟩ := h
    rfl
  · obtain ⟨x, dx, many, p, ys, cells, rfl, hx, hp, each, ok, k⟩ := h
    refine ⟨_, (pss_cons (ps_if (pt_not (pt_val (pe_callH HB (hr.mono (by decide)) rfl (pa_cons pe_int (pa_cons (pe_gint rfl c.MOST_MARKS) (pa_cons (pv 1) pa_nil)))))) (pss_one ps_never) pss_nil)
      (pss_cons (ps_if (pt_not (pt_val (pe_callH HA (hr.mono (by decide)) rfl (pa_cons (pv 1) (pa_cons (pv 2) pa_nil))))) (pss_one ps_never) pss_nil)
      (pss_cons (ps_fld (pv 0) (pv 1) rfl)
      (pss_one (ps_fld (pv 0) (pv 2) rfl))))), ?_⟩
    refine ⟨_, rfl, _, _, _, rfl, _, rfl, ?_⟩
    rw [decide_eq_true (show (0 : Int) ≤ many ∧ many ≤ 6 from ⟨ok.lo, ok.hi⟩)]
    refine iteF ?_
    refine ⟨_, rfl, _, rfl, many, p, ys, cells, rfl, hp, each, ok, _, rfl, ?_⟩
    refine iteF ?_
    refine ⟨_, rfl, _, rfl, x, C, dx, [], rfl, hx, FT.cl, FT.nM, (by show 0 < 1000; decide), ?_⟩
    refine ⟨_, rfl, _, rfl, x, C, dx, _, rfl, upd_same, FT.cl, FT.nC, (by show 1 < 1000; decide), ?_⟩
    refine k _ ⟨dx, ?_⟩ fun b o e hb => ?_
    · rw [upd_same, putMany, putCells]
      rfl
    · rw [upd_ne hb, upd_ne hb]
      exact e
end
end Xci

namespace Xci
open PySem L2
def markB (n : Int) : PyData → Bool
  | .int x => decide (0 ≤ x ∧ x < n)
  | _ => false
theorem markB_all {n : Int} : ∀ {ds : List PyData}, ds.all (markB n) = true → ∃ ms : List Int, ds = ms.map .int ∧ ∀ m ∈ ms, 0 ≤ m ∧ m < n
  | [], _ => ⟨[], rfl, fun _ h => nomatch h⟩
  | .int x :: r, h => by
    simp only [List.all_cons, Bool.and_eq_true] at h
    obtain ⟨ms, rfl, ok⟩ := markB_all h.2
    have h1 : 0 ≤ x ∧ x < n := of_decide_eq_true h.1
    exact ⟨x :: ms, rfl, fun m hm => (List.mem_cons.mp hm).elim (fun e => e ▸ h1) (ok m)⟩
  | .none :: _, h => by simp [markB] at h
  | .bool _ :: _, h => by simp [markB] at h
  | .str _ :: _, h => by simp [markB] at h
  | .list _ :: _, h => by simp [markB] at h
  | .tuple _ :: _, h => by simp [markB] at h
  | .dict _ :: _, h => by simp [markB] at h
theorem rising_of : ∀ {ms : List Int}, (∀ i (h : i + 1 < ms.length), ms[i] < ms[i + 1]) → ms.Pairwise (· < ·)
  | [], _ => .nil
  | [m], _ => by simp
  | m :: k :: r, h => by
    have rest : (k :: r).Pairwise (· < ·) := rising_of fun i hi => h (i + 1) (Nat.succ_lt_succ hi)
    have h0 : m < k := h 0 (by simp)
    refine List.pairwise_cons.mpr ⟨fun z hz => ?_, rest⟩
    rcases List.mem_cons.mp hz with rfl | hz
    · exact h0
    · have := (List.pairwise_cons.mp rest).1 z hz
      omega
theorem cellD_not_all {n : Int} {ds : List PyData} (h : ds.all (markB n) = false) : cellD n (.tuple ds) = false := by
  cases e : cellD n (.tuple ds) with
  | false => rfl
  | true =>
    obtain ⟨ms, e1, ok, _⟩ := cellD_spec e
    cases e1
    have : (ms.map PyData.int).all (markB n) = true := by
      rw [List.all_eq_true]
      intro d hd
      obtain ⟨m, hm, rfl⟩ := List.mem_map.mp hd
      exact decide_eq_true ⟨ok.lo m hm, ok.hi m hm⟩
    rw [this] at h
    cases h
def adjB (ms : List Int) : List Bool := (List.range (ms.length - 1)).map fun i => decide (ms.getD i 0 < ms.getD (i + 1) 0)
theorem cellD_adj {n : Int} {ms : List Int} (h : ∀ m ∈ ms, 0 ≤ m ∧ m < n) : cellD n (.tuple (ms.map .int)) = (adjB ms).all id := by
  have up : ms.Pairwise (· < ·) ↔ (adjB ms).all id = true := by
    constructor
    · intro p
      rw [List.all_eq_true]
      intro b hb
      obtain ⟨i, hi, rfl⟩ := List.mem_map.mp hb
      have hi := List.mem_range.mp hi
      have := List.pairwise_iff_getElem.mp p i (i + 1) (by omega) (by omega) (Nat.lt_succ_self i)
      rw [List.getD_eq_getElem?_getD, List.getD_eq_getElem?_getD, List.getElem?_eq_getElem (by omega), List.getElem?_eq_getElem (by omega)]
      exact decide_eq_true this
    · intro a
      refine rising_of fun i hi => ?_
      have := List.all_eq_true.mp a _ (List.mem_map.mpr ⟨i, List.mem_range.mpr (by omega), rfl⟩)
      have := of_decide_eq_true (show decide _ = true from this)
      rw [List.getD_eq_getElem?_getD, List.getD_eq_getElem?_getD, List.getElem?_eq_getElem (by omega), List.getElem?_eq_getElem (by omega)] at this
      exact this
  cases e : (adjB ms).all id with
  | true => exact cellFrom_of (up.mpr e) (fun m hm => (h m hm).1) fun m hm => (h m hm).2
  | false =>
    cases e2 : cellD n (.tuple (ms.map .int)) with
    | false => rfl
    | true =>
      obtain ⟨ks, e3, ok, _⟩ := cellD_spec e2
      have e4 : ms.map PyData.int = ks.map PyData.int := by injection e3
      have e5 : ms = ks := List.map_inj_right (fun a b z => by injection z) |>.mp e4
      subst e5
      rw [up.mp ok.up] at e
      cases e
def spMarksD : Sp := fun vs H Q _ => ∃ (a : Out) (n : Int) (v : V) (d : PyData), vs = [v, .int n] ∧ Dt a H v d ∧ (∀ ds, d = .tuple ds → ds.length ≤ 900) ∧ ∀ H', Same H H' → Q (.bl (cellD n d)) H'
section
variable {P : Program} {w : World} {K : PySem.W.Frag} {mg : Str → Option Value} {base : Heap}
abbrev sLawIsInt : Stmt := top 32
theorem scLawIsInt : FnScope ["thing"] ["thing"] (defScope sLawIsInt) := ⟨rfl, rfl, rfl, by decide +kernel, rfl, by decide +kernel, by decide +kernel⟩
theorem okd_lawIsInt {f : Addr} {fd : FuncData} (F : Fun K "_law_is_int" "_law_is_int" sLawIsInt f fd) (T : Txt mg) : FnOk P w K mg base CX0 1 f fd ["thing"] spIntD := by
  refine F.ok scLawIsInt (fun vs H Q E h => ?_) (fun cdv A outer s H vs Q E hr h => ?_)
  · obtain ⟨a, v, d, rfl, _⟩ := h
    rfl
  · obtain ⟨a, v, d, rfl, hd, k⟩ := h
    refine ⟨_, (pss_one (ps_ret (pe_and (pe_callB call_isi rfl T.isinstance (by decide +kernel) (pa_cons (pv 0) (pa_cons (pe_bltn rfl T.int (by decide +kernel) (v := V.ty "int") rfl) pa_nil))) (pe_one (pe_not (pe_callB call_isi rfl T.isinstance (by decide +kernel) (pa_cons (pv 0) (pa_cons (pe_bltn rfl T.bool (by decide +kernel) (v := V.ty "bool") rfl) pa_nil)))))))), ?_⟩
    rw [← intD_isa] at k
    refine ⟨_, rfl, _, _, _, _, _, rfl, .ty _, dt_ty hd, kit_D d (.inl rfl), _, rfl, ?_⟩
    cases h1 : isaD "int" d with
    | false =>
      rw [h1] at k
      exact k
    | true =>
      rw [h1] at k
      exact ⟨_, rfl, _, _, _, _, _, rfl, .ty _, dt_ty hd, kit_D d (.inr (.inl rfl)), _, rfl, k⟩
abbrev sLawAreMarks : Stmt := top 33
theorem scLawAreMarks : FnScope ["thing", "many", "mark", "at"] ["thing", "many"] (defScope sLawAreMarks) := ⟨rfl, rfl, rfl, by decide +kernel, rfl, by decide +kernel, by decide +kernel⟩
theorem okd_lawAreMarks {f : Addr} {fd : FuncData} (F : Fun K "_law_are_marks" "_law_are_marks" sLawAreMarks f fd) (T : Txt mg) (HI : Has P w K mg base "_law_is_int" ["thing"] 1 spIntD) : FnOk P w K mg base CX0 2 f fd ["thing", "many"] spMarksD := by
  refine F.ok scLawAreMarks (fun vs H Q E h => ?_) (fun cdv A outer s H vs Q E hr h => ?_)
  · obtain ⟨a, n, v, d, rfl, _⟩ := h
    rfl
  · obtain ⟨a, n, v, d, rfl, hd, few, k⟩ := h
    refine ⟨_, (pss_cons (ps_if (PW.pt (pw_or (pt_not (pt_val (pe_callB call_isi rfl T.isinstance (by decide +kernel) (pa_cons (pv 0) (pa_cons (pe_bltn rfl T.tuple (by decide +kernel) (v := V.ty "tuple") rfl) pa_nil))))) (pw_or1 (pt_not (pt_val (pe_callB (cr_all rfl) rfl T.all (by decide +kernel) (pa_cons (pe_lc (own := [("mark", 2)]) rfl scLawAreMarks.nd (pi_tup (pv 0)) (blkOk_by (N := ["thing", "many", "mark", "at"]) (sc := defScope sLawAreMarks) (by decide +kernel)) (fun _ _ _ _ _ => (pg_name (i := 2) scLawAreMarks.nd rfl (by first | exact Or.inl rfl | exact Or.inr rfl))) (fun _ _ _ _ _ => pts_nil) (fun _ _ _ _ _ => (pe_and (pe_callH HI (hr.mono (by decide)) rfl (pa_cons (pv 2) pa_nil)) (pe_one (pe_chain op_le op_lt pe_int (pv 2) (pv 1)))))) pa_nil))))))) (pss_one (ps_ret pe_bl)) pss_nil)
      (pss_one (ps_ret (pe_callB (cr_all rfl) rfl T.all (by decide +kernel) (pa_cons (pe_lc (own := [("at", 3)]) rfl scLawAreMarks.nd (pi_range2 rfl T.range (pa_cons pe_int (pa_cons (pe_callB call_len rfl T.len PySem.boot_len (pa_cons (pv 0) pa_nil)) pa_nil))) (blkOk_by (N := ["thing", "many", "mark", "at"]) (sc := defScope sLawAreMarks) (by decide +kernel)) (fun _ _ _ _ _ => (pg_name (i := 3) scLawAreMarks.nd rfl (by first | exact Or.inl rfl | exact Or.inr rfl))) (fun _ _ _ _ _ => pts_nil) (fun _ _ _ _ _ => (pe_cmpR op_lt (pe_ix (show IxR _ (rIxT K) from ix_tup) (pv 0) (pe_op op_sub (pv 3) pe_int) (fun _ _ => rfl)) (pe_ix (show IxR _ (rIxT K) from ix_tup) (pv 0) (pv 3) (fun _ _ => rfl)) (nomark _)))) pa_nil))))), ?_⟩
    refine ⟨_, rfl, _, _, _, _, _, rfl, .ty _, dt_ty hd, kit_D d (.inr (.inr (.inr (.inr (.inl rfl))))), _, rfl, ?_⟩
    cases h1 : isaD "tuple" d with
    | false =>
      rw [(isa_tup_not (by rw [h1]; decide)).1] at k
      exact iteT (k H (Same.refl H))
    | true =>
      obtain ⟨ds, rfl⟩ := (isa_tup d).mp h1
      obtain ⟨p, xs, rfl, _, hp, r⟩ := dt_tup hd
      have len := r.len
      have few := few ds rfl
      refine iteF ?_
      refine ⟨_, rfl, p, rfl, ⟨_, sqT hp⟩, fun D hD => ?_⟩
      refine lc_tup (K := K) (a := p) (xs := xs) (fun i H4 => Same H H4 ∧ H4 D = some (.lst (((ds.take i).map (markB n)).map V.bl))) ⟨Same.new hD, upd_same⟩ (fun i H4 _ ⟨e, _⟩ => sqT (e _ _ hp)) ?_ ?_
      · rintro i y H4 hi ⟨sm, e4⟩
        obtain ⟨d', at_, hy⟩ := r.get hi
        have hy4 := hy.fr (fun b o e _ => sm b o e)
        have add : ∀ b, markB n d' = b → ∃ acc, H4 D = some (.lst acc) ∧ acc.length < sizeLine ∧ (Same H (upd H4 D (.lst (acc ++ [V.bl b]))) ∧ (upd H4 D (.lst (acc ++ [V.bl b]))) D = some (.lst (((ds.take (i + 1)).map (markB n)).map V.bl))) := fun b hb => by
          refine ⟨_, e4, by rw [List.length_map, List.length_map, List.length_take]; exact small1000 (by omega), fun b' o h => by rw [upd_ne (ne_of_none h hD)]; exact sm _ _ h, ?_⟩
          rw [upd_same, List.take_add_one, at_, List.map_append, List.map_append, ← hb]
          rfl
        refine ⟨rfl, _, rfl, a, y, d', rfl, hy4, _, rfl, ?_⟩
        cases hy4 with
        | int x =>
          refine iteT ?_
          refine ⟨_, rfl, _, _, rfl, rfl, _, rfl, ?_⟩
          refine ite2 (fun g1 => ?_) (fun g1 => ?_)
          · refine ⟨_, rfl, _, _, rfl, rfl, ?_⟩
            refine add _ ?_
            have g1' : (0 : Int) ≤ x := of_decide_eq_true g1
            simp [markB, g1']
          · refine add _ ?_
            have g1' : ¬ (0 : Int) ≤ x := fun q => g1 (decide_eq_true q)
            simp [markB, g1']
        | _ => exact iteF (add _ rfl)
      · rintro H4 ⟨sm, e4⟩
        rw [List.take_of_length_le (by omega)] at e4
        refine ⟨D, _, rfl, SqL.of e4, ?_⟩
        refine ⟨_, rfl, ?_⟩
        have e5 : ((ds.map (markB n)).all id) = ds.all (markB n) := by rw [List.all_map]; rfl
        rw [e5]
        cases h2 : ds.all (markB n) with
        | false =>
          rw [cellD_not_all h2] at k
          exact iteT (k H4 sm)
        | true =>
          refine iteF ?_
          obtain ⟨ms, rfl, ok⟩ := markB_all h2
          rw [dt_ints r] at hp
          rw [cellD_adj ok] at k
          have lm : ms.length ≤ 900 := by rw [List.length_map] at few; exact few
          have hp4 := sm _ _ hp
          refine ⟨_, rfl, _, (ms.map V.int).length, rfl, .inr ⟨_, sqT hp4, rfl⟩, 1, ((ms.map V.int).length : Int), rfl, ⟨by omega, by omega, by omega, by rw [List.length_map]; omega⟩, fun D2 hD2 => ?_⟩
          rw [List.length_map]
          refine lc_range (lo := 1) (n := ((ms.length : Int) - 1).toNat) (fun i H5 => Same H4 H5 ∧ H5 D2 = some (.lst (((adjB ms).take i).map V.bl))) ⟨Same.new hD2, upd_same⟩ ?_ ?_
          · rintro i H5 hi ⟨s5, e6⟩
            have hi' : i + 1 < ms.length := by omega
            have hp5 := s5 _ _ hp4
            have g0 : (ms.map V.int)[i]? = some (V.int ms[i]) := by rw [List.getElem?_map, List.getElem?_eq_getElem (by omega)]; rfl
            have g1 : (ms.map V.int)[i + 1]? = some (V.int ms[i + 1]) := by rw [List.getElem?_map, List.getElem?_eq_getElem hi']; rfl
            refine ⟨rfl, _, rfl, _, rfl, _, _, rfl, rfl, p, _, _, _, rfl, rfl, sqT hp5, at_of (j := i) (by omega) g0, _, rfl, _, rfl, p, _, _, _, rfl, rfl, sqT hp5, at_of (j := i + 1) (by omega) g1, ?_⟩
            refine ⟨_, _, rfl, rfl, ?_⟩
            refine ⟨_, e6, by rw [List.length_map, List.length_take]; exact small1000 (by omega), fun b o h => by rw [upd_ne (ne_of_none h hD2)]; exact s5 _ _ h, ?_⟩
            have at_ : (adjB ms)[i]? = some (decide (ms[i] < ms[i + 1])) := by
              unfold adjB
              rw [List.getElem?_map, List.getElem?_range (by omega)]
              show some (decide (ms.getD i 0 < ms.getD (i + 1) 0)) = _
              rw [List.getD_eq_getElem?_getD, List.getD_eq_getElem?_getD, List.getElem?_eq_getElem (by omega), List.getElem?_eq_getElem hi']
              rfl
            rw [upd_same, List.take_add_one, at_, List.map_append]
            rfl
          · rintro H5 ⟨s5, e6⟩
            rw [List.take_of_length_le (by unfold adjB; rw [List.length_map, List.length_range]; omega)] at e6
            exact ⟨D2, _, rfl, SqL.of e6, k H5 (sm.trans s5)⟩
end
end Xci

namespace Xci
open PySem L2
/-- new data: none of its objects stood ahead, but for what may be kept out -/
def Fresh (a : Addr) (H H' : Hp) (v : V) (d : PyData) : Prop := ∀ N : Out, N a → Used N H → Dt N H' v d
theorem Fresh.fr {a : Addr} {H H1 H2 : Hp} {v : V} {d : PyData} (f : Fresh a H H1 v d) (g : Fr a H1 H2) : Fresh a H H2 v d := fun N na u => (f N na u).fr (fun b o e n => g b o e (fun z => n (z ▸ na)))
theorem Fresh.flat {a : Addr} {H H' : Hp} {v : V} {d : PyData} (h : ∀ N H, Dt N H v d) : Fresh a H H' v d := fun N _ _ => h N H'
theorem Used.fr {N : Out} {a l : Addr} {H H' : Hp} (u : Used N H) (f : Fr a H H') (d : Deck H' a l) : Used N H' := fun p n z => by
  by_cases e : p = a
  · obtain ⟨ys, y⟩ := d.is
    rw [← e, z] at y
    cases y
  · cases y : H p with
    | none => exact u p n y
    | some o =>
      rw [f _ _ y e] at z
      cases z
theorem none_of {H H' : Hp} {p : Addr} (h : H' p = none) (s : Same H H') : H p = none := by
  cases e : H p with
  | none => rfl
  | some o => rw [s _ _ e] at h; cases h
def spDeep : Sp := fun vs H Q _ => ∃ a l : Addr, vs = [.ref a] ∧ Deck H a l ∧ ∀ (v : V) (d : PyData) (H' : Hp), Fresh a H H' v d → Fine 108 37 d → Deck H' a l → Fr a H H' → Q v H'
def spOdd : Sp := fun vs H Q _ => ∃ a l : Addr, vs = [.ref a] ∧ Deck H a l ∧ ∀ (v : V) (d : PyData) (H' : Hp), Fresh a H H' v d → Fine 120 40 d → Deck H' a l → Fr a H H' → Q v H'
theorem fine_empty {n k : Nat} : Fine n (k + 1) (.tuple []) := FineAll.nil.tup
theorem az_ok : ∀ c ∈ (("a" : Str)).cps.toList, c < 16 ^ 8 := by decide +kernel
theorem dt_lst {a : Out} {H : Hp} {v : V} {ds : List PyData} (h : Dt a H v (.list ds)) : ∃ p xs, v = .ref p ∧ ¬ a p ∧ H p = some (.lst xs) ∧ DtAll a H xs ds := by
  cases h with
  | lst n h r => exact ⟨_, _, rfl, n, h, r⟩
section
variable {P : Program} {w : World} {K : PySem.W.Frag} {mg : Str → Option Value} {base : Heap}
abbrev sLawDeep : Stmt := top 34
theorem scLawDeep : FnScope ["deck", "found", "turn"] ["deck"] (defScope sLawDeep) := ⟨rfl, rfl, rfl, by decide +kernel, rfl, by decide +kernel, by decide +kernel⟩
theorem ok_deep {f : Addr} {fd : FuncData} (F : Fun K "_law_deep" "_law_deep" sLawDeep f fd) (T : Txt mg) (HT : Has P w K mg base "_law_take" ["deck", "many"] 1 spTake) : FnOk P w K mg base CX0 2 f fd ["deck"] spDeep := by
  refine F.ok scLawDeep (fun vs H Q E h => ?_) (fun cdv A outer s H vs Q E hr h => ?_)
  · obtain ⟨a, l, rfl, _⟩ := h
    rfl
  · obtain ⟨a, l, rfl, hdk, k⟩ := h
    refine ⟨_, (pss_cons (ps_set (i := 1) scLawDeep.nd rfl (by first | exact Or.inl rfl | exact Or.inr rfl) (pe_tup pa_nil))
      (pss_cons (ps_for PassesOwn.never rfl (pi_range1 rfl T.range (pa_cons pe_int pa_nil)) (pg_name (i := 2) scLawDeep.nd rfl (by first | exact Or.inl rfl | exact Or.inr rfl)) (pss_one (ps_set (i := 1) scLawDeep.nd rfl (by first | exact Or.inl rfl | exact Or.inr rfl) (pe_ix ix_list (pe_lst (pa_cons (pe_tup (pa_cons (pv 1) pa_nil)) (pa_cons (pe_lst (pa_cons (pv 1) pa_nil)) (pa_cons (pe_disp (pps_cons pe_str (pv 1) pps_nil) (by rfl) (by rfl) (fun z => by cases z) (by decide)) pa_nil)))) (pe_callH HT (hr.mono (by decide)) rfl (pa_cons (pv 0) (pa_cons pe_int pa_nil))) (fun _ _ => rfl)))))
      (pss_one (ps_ret (pv 1))))), ?_⟩
    refine ⟨(by show 0 ≤ sizeLine; decide), fun t0 ht0 => ?_⟩
    have a0 : H a ≠ none := fun z => by
      obtain ⟨ys, e⟩ := hdk.is
      rw [z] at e
      cases e
    refine ⟨36, rfl, by decide, by decide, for_range (n := 36) (fun i σ H2 => (∃ (v : V) (o : Option V), σ = [some (.ref a), some v, o] ∧ ∃ d, Fresh a H H2 v d ∧ Fine (3 * i) (i + 1) d) ∧ Deck H2 a l ∧ Fr a H H2) ⟨⟨.ref t0, none, rfl, .tuple [], fun N na u => .tup (u.new ht0) upd_same .nil, fine_empty⟩, hdk.keep (Same.new ht0), Fr.new ht0⟩ ?_ ?_⟩
    · rintro i σ H2 hi ⟨⟨v, o, rfl, d, fv, fi⟩, dk, fr⟩
      refine ⟨_, rfl, (by show 1 ≤ sizeLine; decide), fun t ht => ?_⟩
      refine ⟨_, rfl, (by show 1 ≤ sizeLine; decide), fun q hq => ?_⟩
      intro p hp
      refine ⟨_, rfl, upd_same, [(.inr "a", v)], rfl, (by show 1 ≤ 15; decide), ?_⟩
      have ev : ∀ kv : List (Key × V), mergeK [] [(Sum.inr ("a" : Str), v)] = kv → kv = [(Sum.inr ("a" : Str), v)] := fun kv e => e.symm
      generalize hkv : mergeK [] [(Sum.inr ("a" : Str), v)] = kv
      have hkv := ev kv hkv
      subst hkv
      clear ev
      refine ⟨(by show 3 ≤ sizeLine; decide), fun m hm => ?_⟩
      have sA : Same H2 (upd H2 t (.tup [v])) := Same.new ht
      have sB : Same (upd H2 t (.tup [v])) (upd (upd H2 t (.tup [v])) q (.lst [v])) := Same.new hq
      have eT : (upd H2 t (.tup [v])) t = some (.tup [v]) := upd_same
      have eQ : (upd (upd H2 t (.tup [v])) q (.lst [v])) q = some (.lst [v]) := upd_same
      have hT : H2 t = none := ht
      have hQ : H2 q = none := (none_of hq sA)
      generalize hHA : upd (upd H2 t (.tup [v])) q (.lst [v]) = HA at *
      have eT' := sB _ _ eT
      have sC : Same HA (upd (upd HA p (.dK [])) p (.dK [(Sum.inr ("a" : Str), v)])) := fun b o e => by rw [upd_ne (ne_of_none e hp), upd_ne (ne_of_none e hp)]; exact e
      have eP : (upd (upd HA p (.dK [])) p (.dK [(Sum.inr ("a" : Str), v)])) p = some (.dK [(Sum.inr ("a" : Str), v)]) := upd_same
      have hP : H2 p = none := none_of hp (sA.trans sB)
      generalize upd (upd HA p (.dK [])) p (.dK [(Sum.inr ("a" : Str), v)]) = HB at *
      have sD : Same HB (upd HB m (.lst [.ref t, .ref q, .ref p])) := Same.new hm
      have eM : (upd HB m (.lst [.ref t, .ref q, .ref p])) m = some (.lst [.ref t, .ref q, .ref p]) := upd_same
      generalize upd HB m (.lst [.ref t, .ref q, .ref p]) = HC at *
      have all : Same H2 HC := (sA.trans sB).trans (sC.trans sD)
      have dC := dk.keep all
      refine ⟨_, rfl, a, l, 3, rfl, dC, by decide, by decide, fun j H3 j0 j3 dk3 f3 o3 => ?_⟩
      have fr3 : Fr a H H3 := fr.trans ((Fr.same all).trans f3)
      have nm : m ≠ a := fun z => by
        obtain ⟨ys, e⟩ := (dk.keep (sA.trans (sB.trans sC))).is
        rw [← z, hm] at e
        cases e
      have out : ∀ (u : V) (d' : PyData), (∀ N : Out, N a → Used N H → Dt N HC v d → Used N H2 → Dt N HC u d') → Fine (3 * (i + 1)) (i + 1 + 1) d' → ∃ (v : V) (o : Option V), [some (.ref a), some u, some (.int ((0 : Int) + (i : Int)))] = [some (.ref a), some v, o] ∧ ∃ d, Fresh a H H3 v d ∧ Fine (3 * (i + 1)) (i + 1 + 1) d := fun u d' hu fd => by
        refine ⟨u, _, rfl, d', fun N na us => ?_, fd⟩
        have u2 : Used N H2 := us.fr fr dk
        exact (hu N na us ((fv N na us).fr (FrO.same all)) u2).fr fun b o e n => f3 b o e fun z => n (z ▸ na)
      have few : j = 0 ∨ j = 1 ∨ j = 2 := by omega
      rcases few with rfl | rfl | rfl
      · exact ⟨m, _, _, _, rfl, rfl, SqL.of (f3 _ _ eM nm), at_of (j := 0) rfl rfl, out _ (.tuple [d]) (fun N na us dv u2 => .tup (u2.new hT) (sD _ _ (sC _ _ eT')) (.cons dv .nil)) ((fi.mono (Nat.le_refl _) (Nat.le_refl _) |> fun z => (FineAll.cons (m := 0) z .nil).tup).mono (by omega) (by omega)), dk3, fr3⟩
      · exact ⟨m, _, _, _, rfl, rfl, SqL.of (f3 _ _ eM nm), at_of (j := 1) rfl rfl, out _ (.list [d]) (fun N na us dv u2 => .lst (u2.new hQ) (sD _ _ (sC _ _ eQ)) (.cons dv .nil)) ((fi.mono (Nat.le_refl _) (Nat.le_refl _) |> fun z => (FineAll.cons (m := 0) z .nil).lst).mono (by omega) (by omega)), dk3, fr3⟩
      · exact ⟨m, _, _, _, rfl, rfl, SqL.of (f3 _ _ eM nm), at_of (j := 2) rfl rfl, out _ (.dict [(.str "a", d)]) (fun N na us dv u2 => .dic (kvs := [(Sum.inr ("a" : Str), v)]) (ds := [d]) (u2.new hP) (sD _ _ eP) (.cons dv .nil)) ((fine_one fi az_ok).mono (by show 1 + 3 * i + 2 ≤ _; omega) (by omega)), dk3, fr3⟩
    · rintro σ H2 ⟨⟨v, o, rfl, d, fv, fi⟩, dk, fr⟩
      exact ⟨_, rfl, k v d H2 fv fi dk fr⟩
abbrev sLawOdd : Stmt := top 35
theorem scLawOdd : FnScope ["deck", "things"] ["deck"] (defScope sLawOdd) := ⟨rfl, rfl, rfl, by decide +kernel, rfl, by decide +kernel, by decide +kernel⟩
def odd1 : List PyData := [.none, .bool true, .bool false, .int 0, .int 1, .int (-1), .int 7, .int (10 ^ 20), .str "", .str "a", .str "row", .str "A", .str "a b", .tuple [], .list [], .dict [], .tuple [.int 0], .list [.int 0], .tuple [.int 1, .int 0]]
def odd2 : List PyData := [.tuple [.int 0, .int 0], .tuple [.tuple [.str "never", .tuple []]], .list [.tuple [.str "some", .tuple [.int 0]]]]
def odd3 : List PyData := [.tuple [.tuple []], .tuple [.str "a"], .tuple [.bool true], .tuple [.none], .tuple [.str "0"], .tuple [.int 0, .str "a"], .tuple [.tuple [.int 0], .str "a"], .str "abcdefghi", .tuple [.int (-1)], .tuple [.int 6], .list [.list [.int 0]]]
def fineB (d : PyData) : Bool := d.showable && (d.leavesShort 40 && (decide (d.bulk ≤ 120) && decide (d.depth ≤ 40)))
theorem fineB_ok {d : PyData} (h : fineB d = true) : Fine 120 40 d := by
  simp only [fineB, Bool.and_eq_true, decide_eq_true_eq] at h
  exact ⟨h.1, h.2.1, h.2.2.1, h.2.2.2⟩
theorem odd_fine : ∀ d ∈ odd1 ++ odd2 ++ odd3, Fine 120 40 d := fun d h => fineB_ok (List.all_eq_true.mp (show (odd1 ++ odd2 ++ odd3).all fineB = true by decide +kernel) d h)
theorem ok_odd {f : Addr} {fd : FuncData} (F : Fun K "_law_odd" "_law_odd" sLawOdd f fd) (T : Txt mg) (HT : Has P w K mg base "_law_take" ["deck", "many"] 1 spTake) (HD : Has P w K mg base "_law_deep" ["deck"] 2 spDeep) : FnOk P w K mg base CX0 3 f fd ["deck"] spOdd := by
  refine F.ok scLawOdd (fun vs H Q E h => ?_) (fun cdv A outer s H vs Q E hr h => ?_)
  · obtain ⟨a, l, rfl, _⟩ := h
    rfl
  · obtain ⟨a, l, rfl, hdk, k⟩ := h
    obtain ⟨N, hN⟩ : ∃ N : Out, N = fun p => H p ≠ none := ⟨_, rfl⟩
    have us : Used N H := fun p n => by rw [hN] at n; exact n
    have na : N a := by
      rw [hN]
      intro z
      obtain ⟨ys, e⟩ := hdk.is
      rw [z] at e
      cases e
    refine ⟨_, (pss_cons (ps_set (i := 1) scLawOdd.nd rfl (by first | exact Or.inl rfl | exact Or.inr rfl) (lit_lst (N := N) (lits_cons lit_non (lits_cons lit_bl (lits_cons lit_bl (lits_cons lit_int (lits_cons lit_int (lits_cons lit_neg (lits_cons lit_int (lits_cons (lit_pow (by decide)) (lits_cons lit_str (lits_cons lit_str (lits_cons lit_str (lits_cons lit_str (lits_cons lit_str (lits_cons (lit_tup lits_nil (by decide)) (lits_cons (lit_lst lits_nil (by decide)) (lits_cons lit_dict0 (lits_cons (lit_tup (lits_cons lit_int lits_nil) (by decide)) (lits_cons (lit_lst (lits_cons lit_int lits_nil) (by decide)) (lits_cons (lit_tup (lits_cons lit_int (lits_cons lit_int lits_nil)) (by decide)) lits_nil))))))))))))))))))) (by decide)))
      (pss_cons (ps_set (i := 1) scLawOdd.nd rfl (by first | exact Or.inl rfl | exact Or.inr rfl) (pe_op op_cat (pv 1) (lit_lst (N := N) (lits_cons (lit_tup (lits_cons lit_int (lits_cons lit_int lits_nil)) (by decide)) (lits_cons (lit_tup (lits_cons (lit_tup (lits_cons lit_str (lits_cons (lit_tup lits_nil (by decide)) lits_nil)) (by decide)) lits_nil) (by decide)) (lits_cons (lit_lst (lits_cons (lit_tup (lits_cons lit_str (lits_cons (lit_tup (lits_cons lit_int lits_nil) (by decide)) lits_nil)) (by decide)) lits_nil) (by decide)) lits_nil))) (by decide))))
      (pss_cons (ps_set (i := 1) scLawOdd.nd rfl (by first | exact Or.inl rfl | exact Or.inr rfl) (pe_op op_cat (pv 1) (lit_lst (N := N) (lits_cons (lit_tup (lits_cons (lit_tup lits_nil (by decide)) lits_nil) (by decide)) (lits_cons (lit_tup (lits_cons lit_str lits_nil) (by decide)) (lits_cons (lit_tup (lits_cons lit_bl lits_nil) (by decide)) (lits_cons (lit_tup (lits_cons lit_non lits_nil) (by decide)) (lits_cons (lit_tup (lits_cons lit_str lits_nil) (by decide)) (lits_cons (lit_tup (lits_cons lit_int (lits_cons lit_str lits_nil)) (by decide)) (lits_cons (lit_tup (lits_cons (lit_tup (lits_cons lit_int lits_nil) (by decide)) (lits_cons lit_str lits_nil)) (by decide)) (lits_cons lit_str (lits_cons (lit_tup (lits_cons lit_neg lits_nil) (by decide)) (lits_cons (lit_tup (lits_cons lit_int lits_nil) (by decide)) (lits_cons (lit_lst (lits_cons (lit_lst (lits_cons lit_int lits_nil) (by decide)) lits_nil) (by decide)) lits_nil))))))))))) (by decide))))
      (pss_cons (ps_expr (pe_bm PySem.F.plainAttrs_list PySem.F.slot_list_append PySem.F.type_list_append mt_append (pv 1) (pa_cons (pe_callH HD (hr.mono (by decide)) rfl (pa_cons (pv 0) pa_nil)) pa_nil)))
      (pss_one (ps_ret (pe_ix ix_list (pv 1) (pe_callH HT (hr.mono (by decide)) rfl (pa_cons (pv 0) (pa_cons (pe_callB call_len rfl T.len PySem.boot_len (pa_cons (pv 1) pa_nil)) pa_nil))) (fun _ _ => rfl)))))))), ?_⟩
    refine ⟨us, fun v1 H1 s1 d1 => ?_⟩
    obtain ⟨p1, xs1, rfl, n1, h1, r1⟩ := dt_lst d1
    refine ⟨_, rfl, us.same s1, fun v2 H2 s2 d2 => ?_⟩
    obtain ⟨p2, xs2, rfl, n2, h2, r2⟩ := dt_lst d2
    have l1 : xs1.length = 19 := r1.len
    have l2 : xs2.length = 3 := r2.len
    refine ⟨_, _, _, _, rfl, rfl, s2 _ _ h1, h2, by show _ ≤ sizeLine; rw [l1, l2]; decide, fun p3 e3 => ?_⟩
    have s3 : Same H2 (upd H2 p3 (.lst (xs1 ++ xs2))) := Same.new e3
    have h3 : (upd H2 p3 (.lst (xs1 ++ xs2))) p3 = some (.lst (xs1 ++ xs2)) := upd_same
    generalize upd H2 p3 (.lst (xs1 ++ xs2)) = H3 at *
    refine ⟨_, rfl, us.same ((s1.trans s2).trans s3), fun v4 H4 s4 d4 => ?_⟩
    obtain ⟨p4, xs4, rfl, n4, h4, r4⟩ := dt_lst d4
    have l4 : xs4.length = 11 := r4.len
    refine ⟨_, _, _, _, rfl, rfl, s4 _ _ h3, h4, by show _ ≤ sizeLine; rw [List.length_append, l1, l2, l4]; decide, fun p5 e5 => ?_⟩
    have s5 : Same H4 (upd H4 p5 (.lst ((xs1 ++ xs2) ++ xs4))) := Same.new e5
    have h5 : (upd H4 p5 (.lst ((xs1 ++ xs2) ++ xs4))) p5 = some (.lst ((xs1 ++ xs2) ++ xs4)) := upd_same
    generalize upd H4 p5 (.lst ((xs1 ++ xs2) ++ xs4)) = H5 at *
    have r3 := ((r1.fr (FrO.same (s2.trans (s3.trans s4)))).append (r2.fr (FrO.same (s3.trans s4)))).append r4
    have s05 := (s1.trans s2).trans (s3.trans (s4.trans s5))
    have dk5 := hdk.keep s05
    have np5 : p5 ≠ a := fun z => by
      obtain ⟨ys, e⟩ := (hdk.keep ((s1.trans s2).trans (s3.trans s4))).is
      rw [← z, e5] at e
      cases e
    refine ⟨_, rfl, .inl ⟨rfl, _, SqL.of h5⟩, _, rfl, a, l, rfl, dk5, fun v6 d6 H6 fv6 fi6 dk6 f6 => ?_⟩
    have h6 := f6 _ _ h5 np5
    have big : ((xs1 ++ xs2) ++ xs4).length = 33 := by rw [List.length_append, List.length_append, l1, l2, l4]
    refine ⟨p5, _, _, rfl, rfl, h6, by rw [big]; decide, ?_⟩
    have np5l : p5 ≠ l := fun z => by
      obtain ⟨ys, e⟩ := (hdk.keep ((s1.trans s2).trans (s3.trans s4))).is'
      rw [← z, e5] at e
      cases e
    have dk7 := dk6.put (o := .lst (((xs1 ++ xs2) ++ xs4) ++ [v6])) np5 np5l
    have h7 : (upd H6 p5 (.lst (((xs1 ++ xs2) ++ xs4) ++ [v6]))) p5 = some (.lst (((xs1 ++ xs2) ++ xs4) ++ [v6])) := upd_same
    have f7 : ∀ b o, H6 b = some o → b ≠ p5 → (upd H6 p5 (.lst (((xs1 ++ xs2) ++ xs4) ++ [v6]))) b = some o := fun b o e n => by rw [upd_ne n]; exact e
    generalize upd H6 p5 (.lst (((xs1 ++ xs2) ++ xs4) ++ [v6])) = H7 at *
    have fr47 : FrO N H4 H7 := fun b o e n => by
      have nb : b ≠ a := fun z => n (z ▸ na)
      exact f7 _ _ (f6 _ _ (s5 _ _ e) nb) (ne_of_none e e5)
    have r7 : DtAll N H7 (((xs1 ++ xs2) ++ xs4) ++ [v6]) (((odd1 ++ odd2) ++ odd3) ++ [d6]) := by
      refine (r3.fr fr47).append (.cons ?_ .nil)
      have q := fv6 (fun p => H5 p ≠ none) (by
        intro z
        obtain ⟨ys, e⟩ := dk5.is
        rw [z] at e
        cases e) (fun p n => n)
      have q7 : Dt (fun p => H5 p ≠ none) H7 v6 d6 := q.fr fun b o e n => f7 b o e fun z => n (by rw [z, h5]; simp)
      exact q7.less fun p np z => by
        have := us.same s05 p np
        exact this z
    have fr07 : Fr a H H7 := fun b o e n => by
      have e4 := s4 _ _ (s3 _ _ (s2 _ _ (s1 _ _ e)))
      exact f7 _ _ (f6 _ _ (s5 _ _ e4) n) (ne_of_none e4 e5)
    have len7 : (((xs1 ++ xs2) ++ xs4) ++ [v6]).length = 34 := by rw [List.length_append, big]; rfl
    refine ⟨_, rfl, _, rfl, _, rfl, _, _, rfl, .inl ⟨_, SqL.of h7, rfl⟩, a, l, _, rfl, dk7, by rw [len7]; decide, by rw [len7]; decide, fun j H8 j0 j1 dk8 f8 o8 => ?_⟩
    rw [len7] at j1
    have jl : j.toNat < (((xs1 ++ xs2) ++ xs4) ++ [v6]).length := by rw [len7]; omega
    have g8 : (((xs1 ++ xs2) ++ xs4) ++ [v6])[j.toNat]? = some ((((xs1 ++ xs2) ++ xs4) ++ [v6])[j.toNat]) := List.getElem?_eq_getElem jl
    obtain ⟨d8, at8, t8⟩ := r7.get g8
    have fine8 : Fine 120 40 d8 := by
      rcases List.mem_append.mp (List.mem_of_getElem? at8) with m | m
      · exact odd_fine d8 m
      · obtain rfl := List.mem_singleton.mp m
        exact fi6.mono (by omega) (by omega)
    refine ⟨p5, _, _, _, rfl, rfl, SqL.of (f8 _ _ h7 np5), at_of (j := j.toNat) (by omega) g8, ?_⟩
    refine k _ d8 H8 (fun N0 n0 u0 => ?_) fine8 dk8 (fr07.trans f8)
    have t := t8.fr (H' := H8) fun b o e n => f8 b o e fun z => n (z ▸ na)
    exact t.less fun p np => by rw [hN]; exact u0 p np
end
end Xci

namespace Xci
open PySem L2 NdefX
/-- what tells that an instance is one of its class -/
structure ClsTy (K : PySem.W.Frag) (C : Addr) : Prop where
  cl : Cls K C
  ha : PySem.W.findIn K (.ref C) "__class__" = some (some (.builtin "object.__class__"))
  hn : PySem.W.specialIn K (.builtin "object.__class__") "__get__" = some (some (.builtin "getset_descriptor.__get__"))
  htk : PySem.W.takesIn K (.builtin "object.__class__") = some true
  hm : PySem.W.mroIn K C (.type "object") = some true
theorem ClsTy.is {K : PySem.W.Frag} {C a dx : Addr} {fs : List (Str × V)} {H : Hp} (c : ClsTy K C) (h : H a = some (.ins C dx fs)) : TyX K H (.ref a) (.ref C) := .base (.ins h c.cl c.ha c.hn c.htk c.hm)
theorem kit_own {K : PySem.W.Frag} (C : Addr) : PySem.W.kitOne K (.ref C) (.ref C) = some true := by
  unfold PySem.W.kitOne
  rw [if_pos (beq_self_eq_true _)]
theorem first_own {K : PySem.W.Frag} (C : Addr) : PySem.W.notFirst K C (.ref C) = true := by simp [PySem.W.notFirst]
theorem dp_rowsT {K : PySem.W.Frag} {H : Hp} : ∀ {ys : List V} {cs : List (List Int)}, Mks H ys cs → DpAll K H ys (cs.map mkD)
  | _, _, .nil => .nil
  | _, _, .cons m r => .cons (dp_marks m) (dp_rowsT r)
theorem sh_rowsT (cs : List (List Int)) : SeqAt.shaped (.tuple (cs.map mkD)) = true := by
  obtain ⟨a, b⟩ := lay_rows cs
  have d : PyData.depth (.tuple (cs.map mkD)) ≤ 64 := by
    have : PyData.depthAll (cs.map mkD) ≤ 1 := b
    simp only [PyData.depth]
    omega
  unfold SeqAt.shaped
  rw [decide_eq_true d, Bool.and_true]
  have : PyData.canLayAll0 (cs.map mkD) = true := a
  simpa [PyData.canLay0] using this
theorem eqv_intsD : ∀ ms ns : List Int, PyData.eqvAll (ms.map PyData.int) (ns.map PyData.int) = decide (ms = ns)
  | [], [] => by simp [PyData.eqvAll]
  | [], _ :: _ => by simp [PyData.eqvAll]
  | _ :: _, [] => by simp [PyData.eqvAll]
  | m :: r, n :: t => by
    have one : PyData.eqv (.int m) (.int n) = decide (m = n) := by by_cases h : m = n <;> simp [PyData.eqv, h]
    simp only [List.map_cons, PyData.eqvAll, one, eqv_intsD r t]
    by_cases h1 : m = n <;> by_cases h2 : r = t <;> simp [h1, h2]
theorem eqv_rowsD : ∀ cs ds : List (List Int), PyData.eqvAll (cs.map mkD) (ds.map mkD) = decide (cs = ds)
  | [], [] => by simp [PyData.eqvAll]
  | [], _ :: _ => by simp [PyData.eqvAll]
  | _ :: _, [] => by simp [PyData.eqvAll]
  | c :: r, d :: t => by
    have one : PyData.eqv (mkD c) (mkD d) = decide (c = d) := by
      rw [← eqv_intsD]
      simp only [mkD, PyData.eqv]
    simp only [List.map_cons, PyData.eqvAll, one, eqv_rowsD r t]
    by_cases h1 : c = d <;> by_cases h2 : r = t <;> simp [h1, h2]
theorem eqv_tupD (cs ds : List (List Int)) : PyData.eqv (.tuple (cs.map mkD)) (.tuple (ds.map mkD)) = decide (cs = ds) := by
  rw [← eqv_rowsD]
  simp only [PyData.eqv]
theorem dt_mk_inv {N : Out} {H : Hp} {v : V} {ms : List Int} (h : Dt N H v (mkD ms)) : Xci.Mk H v ms := by
  obtain ⟨p, xs, rfl, _, hp, r⟩ := dt_tup h
  rw [dt_ints r] at hp
  exact ⟨p, rfl, hp⟩
theorem dt_mks_inv {N : Out} {H : Hp} : ∀ {cs : List (List Int)} {xs : List V}, DtAll N H xs (cs.map mkD) → Mks H xs cs
  | [], _, h => by
    cases h
    exact .nil
  | c :: r, _, h => by
    cases h with
    | cons h t => exact .cons (dt_mk_inv h) (dt_mks_inv t)
/-- families compared, and with things of another kind -/
def spFamEq (K : PySem.W.Frag) (CF : Addr) : Sp := fun vs H Q _ =>
  (∃ (a b : Addr) (many many' : Int) (p p' : Addr) (ys ys' : List V) (cells cells' : List (List Int)), vs = [.ref a, .ref b] ∧ FamAt CF H a many p ∧ FamAt CF H b many' p' ∧ H p = some (.tup ys) ∧ Mks H ys cells ∧ H p' = some (.tup ys') ∧ Mks H ys' cells' ∧ Q (.bl (decide (many = many') && decide (cells = cells'))) H) ∨
  ∃ (a : Addr) (y : V) (U : Value), vs = [.ref a, y] ∧ TyX K H y U ∧ PySem.W.kitOne K U (.ref CF) = some false ∧ Q (.bl false) H
def spPlace : Sp := fun vs H Q _ => ∃ (N : Out) (p : Addr) (ys : List V) (v : V) (d : PyData), vs = [.ref p, v] ∧ H p = some (.tup ys) ∧ Dt N H v d ∧ Q (.bl (btwD 0 ((ys.length : Int) - 1) d)) H
/-- a family without a cell, or an error -/
def spWithout (CF CN CNs : Addr) : Sp := fun vs H Q E => ∃ (N : Out) (fam : Addr) (many : Int) (pc : Addr) (ys : List V) (cells : List (List Int)) (v : V) (d : PyData), vs = [.ref fam, v] ∧ FamAt CF H fam many pc ∧ H pc = some (.tup ys) ∧ Mks H ys cells ∧ FamOk many cells ∧ ¬ N pc ∧ Used N H ∧ (∀ p xs, N p → H p ≠ some (.tup xs)) ∧ Dt N H v d ∧
  (btwD 0 ((cells.length : Int) - 1) d = false → ∀ H', Same H H' → E (.ref CN) none H') ∧
  (btwD 0 ((cells.length : Int) - 1) d = true → cells.length = 1 → ∀ H', Same H H' → E (.ref CNs) none H') ∧
  (∀ j : Nat, d = .int (j : Int) → j < cells.length → 1 < cells.length → ∀ (x p' : Addr) (ys' : List V) (H' : Hp), FamAt CF H' x many p' → H' p' = some (.tup ys') → Mks H' ys' (cells.take j ++ cells.drop (j + 1)) → Same H H' → Q (.ref x) H')
theorem fam_less {many : Int} {cells : List (List Int)} (ok : FamOk many cells) {j : Nat} (h : j < cells.length) (h1 : 1 < cells.length) : FamOk many (cells.take j ++ cells.drop (j + 1)) := by
  have sub : (cells.take j ++ cells.drop (j + 1)).Sublist cells := by
    conv => rhs; rw [← List.take_append_drop j cells]
    exact List.Sublist.append (List.Sublist.refl _) (by rw [show cells.drop (j + 1) = (cells.drop j).drop 1 by rw [List.drop_drop]]; exact List.drop_sublist 1 _)
  refine ⟨ok.lo, ok.hi, fun e => ?_, Nat.le_trans sub.length_le ok.len, ok.nd.sublist sub, fun c hc => ok.ok c (sub.subset hc)⟩
  have := congrArg List.length e
  rw [List.length_append, List.length_take, List.length_drop, List.length_nil] at this
  omega
theorem made_fam {CF pc x dx : Addr} {H : Hp} {many : Int} {cy : List V} {cells : List (List Int)} {R : VK} {E : XK} (nx : H x = none) (ndx : H dx = none) (hc : H pc = some (.tup cy)) (mk : Mks H cy cells) (ok : FamOk many cells) (G : ∀ H' : Hp, FamAt CF H' x many pc → Same H H' → R .non H') :
    spFam CF [.ref x, .int many, .ref pc] (upd (upd H dx (.own x)) x (.ins CF dx [])) R E := by
  have s1 : Same H (upd (upd H dx (.own x)) x (.ins CF dx [])) := fun b o e => by rw [upd_ne (ne_of_none e nx), upd_ne (ne_of_none e ndx)]; exact e
  exact ⟨x, dx, many, pc, cy, cells, rfl, upd_same, s1 _ _ hc, mk.keep (TFr.same s1), ok, fun H' fa keep => G H' fa fun b o e => keep b o (s1 b o e) (ne_of_none e nx)⟩
section
variable {P : Program} {w : World} {K : PySem.W.Frag} {mg : Str → Option Value} {base : Heap}
abbrev sFamilyEq : Stmt := inClass (top 20) 1
theorem scFamilyEq : FnScope ["self", "other"] ["self", "other"] (defScope sFamilyEq) := ⟨rfl, rfl, rfl, by decide +kernel, rfl, by decide +kernel, by decide +kernel⟩
theorem ok_famEq {f C : Addr} {fd : FuncData} (F : Fun K "__eq__" "Family.__eq__" sFamilyEq f fd) (T : Txt mg) (FT : FamTxt K mg C) (CT : ClsTy K C) : FnOk P w K mg base CX0 1 f fd ["self", "other"] (spFamEq K C) := by
  refine F.ok scFamilyEq (fun vs H Q E h => ?_) (fun cdv A outer s H vs Q E hr h => ?_)
  · rcases h with ⟨a, b, _, _, _, _, _, _, _, _, rfl, _⟩ | ⟨a, y, U, rfl, _⟩
    · rfl
    · rfl
  · refine ⟨_, (pss_one (ps_ret (pe_and (pe_callB call_isi rfl T.isinstance (by decide +kernel) (pa_cons (pv 1) (pa_cons (pe_glob (v := .ref C) rfl FT.mgC rfl) pa_nil))) (pe_and (pe_cmpR op_eq (pe_fld (pv 0) rfl) (pe_fld (pv 1) rfl) (nomark _)) (pe_one (pe_cmpR (op_eqD (hu64 hr)) (pe_fld (pv 0) rfl) (pe_fld (pv 1) rfl) (nomark _))))))), ?_⟩
    rcases h with ⟨a, b, many, many', p, p', ys, ys', cells, cells', rfl, ⟨dx, ha⟩, ⟨dy, hb⟩, hp, ms, hp', ms', k⟩ | ⟨a, y, U, rfl, ty, no, k⟩
    · refine ⟨_, rfl, _, _, _, _, true, rfl, .own C, CT.is hb, kit_own C, _, rfl, ?_⟩
      refine ⟨_, rfl, a, C, dx, _, _, rfl, ha, FT.cl, FT.nM, famF_many _ _, _, rfl, b, C, dy, _, _, rfl, hb, FT.cl, FT.nM, famF_many _ _, rfl, _, rfl, ?_⟩
      have e : decide (V.int many = V.int many') = decide (many = many') := decide_eq_decide.mpr ⟨fun h => by injection h, fun h => by rw [h]⟩
      rw [← e] at k
      refine ite2 (fun g => ?_) (fun hf => ?_)
      · rw [show decide (V.int many = V.int many') = true from g, Bool.true_and] at k
        refine ⟨_, rfl, a, C, dx, _, _, rfl, ha, FT.cl, FT.nC, famF_cells _ _, _, rfl, b, C, dy, _, _, rfl, hb, FT.cl, FT.nC, famF_cells _ _, ?_⟩
        refine ⟨_, _, .tup (sqT hp) (dp_rowsT ms), .tup (sqT hp') (dp_rowsT ms'), sh_rowsT _, sh_rowsT _, ?_⟩
        rw [eqv_tupD]
        exact k
      · have g' : decide (V.int many = V.int many') = false := by simpa using hf
        rw [g', Bool.false_and] at k
        exact k
    · exact ⟨_, rfl, _, _, _, _, false, rfl, .own C, ty, no, _, rfl, k⟩
abbrev sNoCellsInit : Stmt := inClass (top 5) 0
abbrev nNoCells (cc cda : Addr) : NF := ⟨"__init__", "NoCells.__init__", defArgs sNoCellsInit, defBody sNoCellsInit, defScope sNoCellsInit, [(("__class__" : Str), cc)], cda⟩
theorem err_NoCells {C fI cc cda : Addr} (XC : XCls P K mg C fI cc (nNoCells cc cda)) (iC : PySem.W.findIn K (.ref C) "__init__" = some (some (.ref fI))) (tI : PySem.W.typeIn K (.ref fI) = some (.type "function")) (at_ : mg "NoCells" = some (.ref C)) : ErrC P w K mg base "NoCells" C ["self"] (spX0 C) := by
  have XT : XTxt (nNoCells cc cda) := ⟨rfl, rfl, rfl, rfl, _, rfl, rfl⟩
  have S : NScope ["self", "__class__"] ["self"] ["__class__"] (defScope sNoCellsInit) := nscope_by (by decide +kernel)
  obtain ⟨fd, F1, hb⟩ : ∃ fd, FnOk P w K mg base CX0 1 fI fd ["self"] (spX0 C) ∧ Binds K fd ["self"] [] := by
    refine init_fn (k := 0) XC XT S rfl rfl (fun _ _ _ _ _ us hl => match us, hl with | [_], _ => rfl) (fun L => rfl) (fun vs H Q E h => ?_) (fun A outer s H vs Q E hr h => ?_)
    · obtain ⟨a, rfl, ea, _⟩ := h
      exact ⟨rfl, a, [], rfl, ea⟩
    · obtain ⟨a, rfl, ea, k⟩ := h
      exact ⟨_, pss_nil, k⟩
  exact ⟨⟨fI, fd, iC, tI, F1, hb⟩, XC.ox, at_⟩
abbrev sTooManyInit : Stmt := inClass (top 6) 0
abbrev nTooMany (cc cda : Addr) : NF := ⟨"__init__", "TooMany.__init__", defArgs sTooManyInit, defBody sTooManyInit, defScope sTooManyInit, [(("__class__" : Str), cc)], cda⟩
theorem err_TooMany {C fI cc cda : Addr} (XC : XCls P K mg C fI cc (nTooMany cc cda)) (nomost : PySem.W.findIn K (.ref C) "most" = some none) (iC : PySem.W.findIn K (.ref C) "__init__" = some (some (.ref fI))) (tI : PySem.W.typeIn K (.ref fI) = some (.type "function")) (at_ : mg "TooMany" = some (.ref C)) : ErrC P w K mg base "TooMany" C ["self", "most"] (spX1 C "most") := by
  have XT : XTxt (nTooMany cc cda) := ⟨rfl, rfl, rfl, rfl, _, rfl, rfl⟩
  have S : NScope ["self", "most", "__class__"] ["self", "most"] ["__class__"] (defScope sTooManyInit) := nscope_by (by decide +kernel)
  obtain ⟨fd, F1, hb⟩ : ∃ fd, FnOk P w K mg base CX0 1 fI fd ["self", "most"] (spX1 C "most") ∧ Binds K fd ["self", "most"] [] := by
    refine init_fn (k := 0) XC XT S rfl rfl (fun _ _ _ _ _ us hl => match us, hl with | [_, _], _ => rfl) (fun L => rfl) (fun vs H Q E h => ?_) (fun A outer s H vs Q E hr h => ?_)
    · obtain ⟨a, v, rfl, ea, _⟩ := h
      exact ⟨rfl, a, [v], rfl, ea⟩
    · obtain ⟨a, v, rfl, ea, k⟩ := h
      exact ⟨_, pss_one (ps_ost (pv 0) (pv 1)), _, rfl, _, rfl, a, C, rfl, XC.ox, nomost, .inl ⟨ea, fun dx n1 n2 => k dx n1 n2⟩⟩
  exact ⟨⟨fI, fd, iC, tI, F1, hb⟩, XC.ox, at_⟩
end
end Xci

namespace Xci
open PySem L2 NdefX
section
variable {P : Program} {w : World} {K : PySem.W.Frag} {mg : Str → Option Value} {base : Heap}
abbrev sNoNumberInit : Stmt := inClass (top 3) 0
abbrev nNoNumber (cc cda : Addr) : NF := ⟨"__init__", "NoNumber.__init__", defArgs sNoNumberInit, defBody sNoNumberInit, defScope sNoNumberInit, [(("__class__" : Str), cc)], cda⟩
theorem err_NoNumber {C fI cc cda : Addr} (XC : XCls P K mg C fI cc (nNoNumber cc cda)) (iC : PySem.W.findIn K (.ref C) "__init__" = some (some (.ref fI))) (tI : PySem.W.typeIn K (.ref fI) = some (.type "function")) (at_ : mg "NoNumber" = some (.ref C)) : ErrC P w K mg base "NoNumber" C ["self"] (spX0 C) := by
  have XT : XTxt (nNoNumber cc cda) := ⟨rfl, rfl, rfl, rfl, _, rfl, rfl⟩
  have S : NScope ["self", "__class__"] ["self"] ["__class__"] (defScope sNoNumberInit) := nscope_by (by decide +kernel)
  obtain ⟨fd, F1, hb⟩ : ∃ fd, FnOk P w K mg base CX0 1 fI fd ["self"] (spX0 C) ∧ Binds K fd ["self"] [] := by
    refine init_fn (k := 0) XC XT S rfl rfl (fun _ _ _ _ _ us hl => match us, hl with | [_], _ => rfl) (fun L => rfl) (fun vs H Q E h => ?_) (fun A outer s H vs Q E hr h => ?_)
    · obtain ⟨a, rfl, ea, _⟩ := h
      exact ⟨rfl, a, [], rfl, ea⟩
    · obtain ⟨a, rfl, ea, k⟩ := h
      exact ⟨_, pss_nil, k⟩
  exact ⟨⟨fI, fd, iC, tI, F1, hb⟩, XC.ox, at_⟩
abbrev sNoSayingsInit : Stmt := inClass (top 4) 0
abbrev nNoSayings (cc cda : Addr) : NF := ⟨"__init__", "NoSayings.__init__", defArgs sNoSayingsInit, defBody sNoSayingsInit, defScope sNoSayingsInit, [(("__class__" : Str), cc)], cda⟩
theorem err_NoSayings {C fI cc cda : Addr} (XC : XCls P K mg C fI cc (nNoSayings cc cda)) (iC : PySem.W.findIn K (.ref C) "__init__" = some (some (.ref fI))) (tI : PySem.W.typeIn K (.ref fI) = some (.type "function")) (at_ : mg "NoSayings" = some (.ref C)) : ErrC P w K mg base "NoSayings" C ["self"] (spX0 C) := by
  have XT : XTxt (nNoSayings cc cda) := ⟨rfl, rfl, rfl, rfl, _, rfl, rfl⟩
  have S : NScope ["self", "__class__"] ["self"] ["__class__"] (defScope sNoSayingsInit) := nscope_by (by decide +kernel)
  obtain ⟨fd, F1, hb⟩ : ∃ fd, FnOk P w K mg base CX0 1 fI fd ["self"] (spX0 C) ∧ Binds K fd ["self"] [] := by
    refine init_fn (k := 0) XC XT S rfl rfl (fun _ _ _ _ _ us hl => match us, hl with | [_], _ => rfl) (fun L => rfl) (fun vs H Q E h => ?_) (fun A outer s H vs Q E hr h => ?_)
    · obtain ⟨a, rfl, ea, _⟩ := h
      exact ⟨rfl, a, [], rfl, ea⟩
    · obtain ⟨a, rfl, ea, k⟩ := h
      exact ⟨_, pss_nil, k⟩
  exact ⟨⟨fI, fd, iC, tI, F1, hb⟩, XC.ox, at_⟩
end
end Xci

namespace Xci
open PySem L2
section
variable {P : Program} {w : World} {K : PySem.W.Frag} {mg : Str → Option Value} {base : Heap}
theorem okd_integer {f : Addr} {fd : FuncData} (F : Fun K "is_integer" "is_integer" sIsInteger f fd) (T : Txt mg) : FnOk P w K mg base CX0 1 f fd ["thing"] spIntD := by
  refine F.ok scIsInteger (fun vs H Q E h => ?_) (fun cdv A outer s H vs Q E hr h => ?_)
  · obtain ⟨a, v, d, rfl, _⟩ := h
    rfl
  · obtain ⟨a, v, d, rfl, hd, k⟩ := h
    refine ⟨_, (pss_one (ps_ret (pe_and (pe_callB call_isi rfl T.isinstance (by decide +kernel) (pa_cons (pv 0) (pa_cons (pe_bltn rfl T.int (by decide +kernel) (v := V.ty "int") rfl) pa_nil))) (pe_one (pe_not (pe_callB call_isi rfl T.isinstance (by decide +kernel) (pa_cons (pv 0) (pa_cons (pe_bltn rfl T.bool (by decide +kernel) (v := V.ty "bool") rfl) pa_nil)))))))), ?_⟩
    rw [← intD_isa] at k
    refine ⟨_, rfl, _, _, _, _, _, rfl, .ty _, dt_ty hd, kit_D d (.inl rfl), _, rfl, ?_⟩
    cases h1 : isaD "int" d with
    | false =>
      rw [h1] at k
      exact k
    | true =>
      rw [h1] at k
      refine ⟨_, rfl, _, _, _, _, _, rfl, .ty _, dt_ty hd, kit_D d (.inr (.inl rfl)), _, rfl, k⟩
theorem okd_between {f : Addr} {fd : FuncData} (F : Fun K "is_between" "is_between" sIsBetween f fd) (HI : Has P w K mg base "is_integer" ["thing"] 1 spIntD) : FnOk P w K mg base CX0 2 f fd ["low", "high", "thing"] spBtwD := by
  refine F.ok scIsBetween (fun vs H Q E h => ?_) (fun cdv A outer s H vs Q E hr h => ?_)
  · obtain ⟨a, lo, hi, v, d, rfl, _⟩ := h
    rfl
  · obtain ⟨a, lo, hi, v, d, rfl, hd, k⟩ := h
    refine ⟨_, (pss_one (ps_ret (pe_and (pe_callH HI (hr.mono (by decide)) rfl (pa_cons (pv 2) pa_nil)) (pe_one (pe_chain op_le op_le (pv 0) (pv 2) (pv 1)))))), ?_⟩
    refine ⟨_, rfl, a, v, d, rfl, hd, _, rfl, ?_⟩
    cases hd with
    | int x =>
      refine ⟨_, rfl, _, rfl, _, _, rfl, rfl, _, rfl, ?_⟩
      refine ite2 (fun h1 => ?_) (fun h1 => ?_)
      · have h1' : lo ≤ x := of_decide_eq_true h1
        refine ⟨_, rfl, _, _, rfl, rfl, ?_⟩
        have e : btwD lo hi (.int x) = decide (x ≤ hi) := by simp [btwD, h1']
        rw [e] at k
        exact k
      · have h1' : ¬ lo ≤ x := fun q => h1 (decide_eq_true q)
        have e : btwD lo hi (.int x) = false := by simp [btwD, h1']
        rw [e] at k
        exact k
    | _ => exact k
theorem okd_cell {f : Addr} {fd : FuncData} (F : Fun K "is_cell" "is_cell" sIsCell f fd) (T : Txt mg) (HB : Has P w K mg base "is_between" ["low", "high", "thing"] 2 spBtwD) : FnOk P w K mg base CX0 3 f fd ["many", "thing"] spCellD := by
  refine F.ok scIsCell (fun vs H Q E h => ?_) (fun cdv A outer s H vs Q E hr h => ?_)
  · obtain ⟨a, n, v, d, rfl, _⟩ := h
    rfl
  · obtain ⟨a, n, v, d, rfl, hd, k⟩ := h
    refine ⟨_, (pss_cons (ps_if (pt_not (pt_val (pe_callB call_isi rfl T.isinstance (by decide +kernel) (pa_cons (pv 1) (pa_cons (pe_bltn rfl T.tuple (by decide +kernel) (v := V.ty "tuple") rfl) pa_nil))))) (pss_one (ps_ret pe_bl)) pss_nil)
      (pss_cons (ps_set (i := 2) scIsCell.nd rfl (by first | exact Or.inl rfl | exact Or.inr rfl) pe_int)
      (pss_cons (ps_for PassesOwn.never rfl (pi_tup (pv 1)) (pg_name (i := 3) scIsCell.nd rfl (by first | exact Or.inl rfl | exact Or.inr rfl)) (pss_cons (ps_if (pt_not (pt_val (pe_callH HB (hr.mono (by decide)) rfl (pa_cons (pv 2) (pa_cons (pe_op op_sub (pv 0) pe_int) (pa_cons (pv 3) pa_nil)))))) (pss_one (ps_ret pe_bl)) pss_nil)
      (pss_one (ps_set (i := 2) scIsCell.nd rfl (by first | exact Or.inl rfl | exact Or.inr rfl) (pe_op op_add (pv 3) pe_int)))))
      (pss_one (ps_ret pe_bl))))), ?_⟩
    refine ⟨_, rfl, _, _, _, _, _, rfl, .ty _, dt_ty hd, kit_D d (.inr (.inr (.inr (.inr (.inl rfl))))), _, rfl, ?_⟩
    cases h1 : isaD "tuple" d with
    | false =>
      rw [(isa_tup_not (by rw [h1]; decide)).1] at k
      exact iteT k
    | true =>
      obtain ⟨ds, rfl⟩ := (isa_tup d).mp h1
      obtain ⟨p, xs, rfl, _, hp, r⟩ := dt_tup hd
      refine iteF ?_
      refine ⟨_, rfl, p, rfl, ⟨_, sqT hp⟩, for_tup (K := K) (a := p) (xs := xs) (fun i σ H2 => H2 = H ∧ ∃ (z : Int) (v : Option V), σ = [some (.int n), some (.ref p), some (.int z), v] ∧ cellD n (.tuple ds) = cellFrom n z (ds.drop i)) ⟨rfl, 0, none, rfl, rfl⟩ (fun i σ H2 _ ⟨e, _⟩ => by rw [e]; exact sqT hp) ?_ ?_⟩
      · rintro i y σ H2 hi ⟨rfl, z, v, rfl, hz⟩
        obtain ⟨d', at_, hy⟩ := r.get hi
        obtain ⟨l1, l2⟩ := List.getElem?_eq_some_iff.mp at_
        rw [List.drop_eq_getElem_cons l1, l2] at hz
        refine ⟨_, rfl, _, rfl, _, _, rfl, rfl, _, rfl, a, z, n - 1, y, d', rfl, hy, _, rfl, ?_⟩
        cases hy with
        | int x =>
          refine ite2 (fun hf => ?_) (fun hf => ?_)
          · have hf' : (!decide (z ≤ x ∧ x ≤ n - 1)) = true := hf
            have e : cellD n (.tuple ds) = false := by
              rw [hz]
              simp only [cellFrom, Bool.and_eq_false_iff]
              exact .inl (by rw [Bool.not_eq_true'] at hf'; exact hf')
            rw [e] at k
            exact k
          · have hf' : decide (z ≤ x ∧ x ≤ n - 1) = true := by simpa [btwD] using hf
            refine ⟨_, rfl, _, _, rfl, rfl, ?_⟩
            refine ⟨rfl, x + 1, _, rfl, ?_⟩
            rw [hz]
            simp only [cellFrom, hf', Bool.true_and]
        | _ =>
          have e : cellD n (.tuple ds) = false := by rw [hz]; rfl
          rw [e] at k
          exact iteT k
      · rintro σ H2 ⟨rfl, z, v, rfl, hz⟩
        rw [← r.len.symm, List.drop_length] at hz
        have e : cellD n (.tuple ds) = true := hz
        rw [e] at k
        exact k
end
end Xci

namespace Xci
open PySem L2
/-- the ascending list of all lots of these marks -/
def spWithin : Sp := fun vs H Q _ => ∃ (p : Addr) (ms : List Int), vs = [.ref p] ∧ H p = some (.tup (ms.map V.int)) ∧ ms.length ≤ 6 ∧
  ∀ (q : Addr) (ys : List V) (cs : List (List Int)) (H' : Hp), H' q = some (.lst ys) → Mks H' ys cs → cs.Pairwise leC → cs.Perm (lots ms) → Same H H' → H q = none → Q (.ref q) H'
def spCellsAll : Sp := fun vs H Q _ => ∃ n : Int, vs = [.int n] ∧ 0 ≤ n ∧ n ≤ 6 ∧
  ∀ (q : Addr) (ys : List V) (cs : List (List Int)) (H' : Hp), H' q = some (.lst ys) → Mks H' ys cs → cs.Pairwise leC → cs.Perm (lots (rng n)) → Same H H' → H q = none → Q (.ref q) H'
section
variable {P : Program} {w : World} {K : PySem.W.Frag} {mg : Str → Option Value} {base : Heap}
abbrev sAllWithin : Stmt := top 12
theorem scAllWithin : FnScope ["marks", "lots", "mark", "lot"] ["marks"] (defScope sAllWithin) := ⟨rfl, rfl, rfl, by decide +kernel, rfl, by decide +kernel, by decide +kernel⟩
theorem ok_within {f : Addr} {fd : FuncData} (F : Fun K "all_within" "all_within" sAllWithin f fd) (T : Txt mg) : FnOk P w K mg base CX0 1 f fd ["marks"] spWithin := by
  refine F.ok scAllWithin (fun vs H Q E h => ?_) (fun cdv A outer s H vs Q E hr h => ?_)
  · obtain ⟨p, ms, rfl, _⟩ := h
    rfl
  · obtain ⟨p, ns, rfl, hp, n6, k⟩ := h
    refine ⟨_, (pss_cons (ps_set (i := 1) scAllWithin.nd rfl (by first | exact Or.inl rfl | exact Or.inr rfl) (pe_lst (pa_cons (pe_tup pa_nil) pa_nil)))
      (pss_cons (ps_for PassesOwn.never rfl (pi_tup (pv 0)) (pg_name (i := 2) scAllWithin.nd rfl (by first | exact Or.inl rfl | exact Or.inr rfl)) (pss_one (ps_set (i := 1) scAllWithin.nd rfl (by first | exact Or.inl rfl | exact Or.inr rfl) (pe_op op_cat (pv 1) (pe_lc (own := [("lot", 3)]) rfl scAllWithin.nd (pi_list (pv 1)) (blkOk_by (N := ["marks", "lots", "mark", "lot"]) (sc := defScope sAllWithin) (by decide +kernel)) (fun _ _ _ _ _ => (pg_name (i := 3) scAllWithin.nd rfl (by first | exact Or.inl rfl | exact Or.inr rfl))) (fun _ _ _ _ _ => pts_nil) (fun _ _ _ _ _ => (pe_tup (show PA _ _ (StX.tStar K (tVar 3) (tCons (tVar 2) tNil)) from StX.pa_star (pv 3) (pa_cons (pv 2) pa_nil)))))))))
      (pss_one (ps_ret (pe_callB (cr_sortedTI (hu64 hr)) rfl T.sorted (by decide +kernel) (pa_cons (pv 1) pa_nil)))))), ?_⟩
    refine ⟨Nat.zero_le _, fun t ht => ⟨(by show 1 ≤ sizeLine; decide), fun q hq => ?_⟩⟩
    have s0 : Same H (upd (upd H t (.tup [])) q (.lst [.ref t])) := (Same.new ht).trans (Same.new hq)
    have et : (upd (upd H t (.tup [])) q (.lst [.ref t])) t = some (.tup []) := by rw [upd_ne (ne_of_none upd_same hq)]; exact upd_same
    have eq : (upd (upd H t (.tup [])) q (.lst [.ref t])) q = some (.lst [.ref t]) := upd_same
    generalize upd (upd H t (.tup [])) q (.lst [.ref t]) = H1 at *
    refine ⟨_, rfl, p, rfl, ⟨_, sqT (s0 _ _ hp)⟩, for_tup (K := K) (a := p) (xs := ns.map V.int) (fun i σ H2 => ∃ (u : Addr) (ys : List V) (v : Option V), σ = [some (.ref p), some (.ref u), v, none] ∧ Same H H2 ∧ H2 u = some (.lst ys) ∧ Mks H2 ys (lots (ns.take i)))
      ⟨q, [.ref t], none, rfl, s0, eq, Paired.one ⟨t, rfl, et⟩⟩ (fun i σ H2 _ ⟨_, _, _, _, e, _⟩ => sqT (e _ _ hp)) ?_ ?_⟩
    · rintro i y σ H2 hi ⟨u, ys, v, rfl, sm, eu, hm⟩
      obtain ⟨x, hx, rfl⟩ : ∃ x, ns[i]? = some x ∧ V.int x = y := by rw [List.getElem?_map] at hi; exact Option.map_eq_some_iff.mp hi
      have li := (List.getElem?_eq_some_iff.mp hx).1
      have nx : ns.take (i + 1) = ns.take i ++ [x] := by rw [List.take_add_one, hx]; rfl
      have hys : ys.length ≤ 64 := by
        have e := Paired.length hm
        rw [lots_len, List.length_take] at e
        have : 2 ^ min i ns.length ≤ 2 ^ 6 := Nat.pow_le_pow_right (by decide) (by omega)
        omega
      refine ⟨_, rfl, _, rfl, u, rfl, ⟨_, SqL.of eu⟩, fun D hD => ?_⟩
      refine lc_list (K := K) (a := u) (xs := ys) (fun j H4 => ∃ zs : List V, Same H2 H4 ∧ H4 D = some (.lst zs) ∧ Mks H4 zs (((lots (ns.take i)).take j).map (· ++ [x]))) ⟨[], Same.new hD, upd_same, .nil⟩ (fun j H4 _ ⟨_, e, _⟩ => SqL.of (e _ _ eu)) ?_ ?_
      · rintro j lot H4 hj ⟨zs, sm4, e4, m4⟩
        obtain ⟨ms, hms, tl⟩ := Paired.get hm hj
        obtain ⟨tp, rfl, htp⟩ := tl
        have htp4 := sm4 _ _ htp
        have hjl := (List.getElem?_eq_some_iff.mp hj).1
        have hzl : zs.length ≤ 64 := by
          have e := Paired.length m4
          rw [List.length_map, List.length_take] at e
          omega
        have et : ((lots (ns.take i)).take (j + 1)).map (· ++ [x]) = ((lots (ns.take i)).take j).map (· ++ [x]) ++ [ms ++ [x]] := by
          rw [List.take_add_one, hms, List.map_append]
          rfl
        have mkl : ms.length ≤ 64 := by
          have q := (lots_sub (List.mem_of_getElem? hms)).length_le
          rw [List.length_take] at q
          omega
        refine ⟨rfl, _, rfl, tp, ms.map V.int, rfl, .inl (sqT htp4), _, rfl, (by rw [List.length_append, List.length_map]; exact Nat.le_of_lt (small1000 (by show ms.length + 1 ≤ 1000; omega))), fun r hr => ?_⟩
        have e5 : (upd H4 r (.tup (ms.map V.int ++ [.int x]))) r = some (.tup (ms.map V.int ++ [.int x])) := upd_same
        have sm5 : Same H4 (upd H4 r (.tup (ms.map V.int ++ [.int x]))) := Same.new hr
        generalize upd H4 r (.tup (ms.map V.int ++ [.int x])) = H5 at *
        refine ⟨zs, sm5 _ _ e4, small1000 (by omega), ?_⟩
        refine ⟨zs ++ [.ref r], fun b o h => by rw [upd_ne (ne_of_none h hD)]; exact sm5 _ _ (sm4 _ _ h), upd_same, ?_⟩
        rw [et]
        have tf : TFr H5 (upd H5 D (.lst (zs ++ [.ref r]))) := TFr.lst (sm5 _ _ e4)
        exact Paired.app ((m4.keep (TFr.same sm5)).keep tf) (Paired.one ⟨r, rfl, by rw [List.map_append]; exact tf _ _ e5⟩)
      · rintro H4 ⟨zs, sm4, e4, m4⟩
        rw [List.take_of_length_le (by rw [Paired.length hm]; exact Nat.le_refl _)] at m4
        have hzl := Paired.length m4
        rw [List.length_map, ← Paired.length hm] at hzl
        refine ⟨u, D, ys, zs, rfl, rfl, sm4 _ _ eu, e4, Nat.le_of_lt (small1000 (by omega)), fun r hr => ?_⟩
        have sr : Same H4 (upd H4 r (.lst (ys ++ zs))) := Same.new hr
        refine ⟨r, ys ++ zs, some (.int x), rfl, (sm.trans sm4).trans sr, upd_same, ?_⟩
        rw [nx, lots_snoc]
        exact Paired.app (hm.keep (TFr.same (sm4.trans sr))) (m4.keep (TFr.same sr))
    · rintro σ H2 ⟨u, ys, v, rfl, sm, eu, hm⟩
      rw [List.length_map, List.take_length] at hm
      refine ⟨_, rfl, sorted_rows (SqL.of eu) hm fun us cs r mu up perm free => ?_⟩
      exact k r us cs _ upd_same (mu.keep (TFr.new free)) up perm (sm.trans (Same.new free)) (sm.free free)
abbrev sAllCells : Stmt := top 13
theorem scAllCells : FnScope ["many"] ["many"] (defScope sAllCells) := ⟨rfl, rfl, rfl, by decide +kernel, rfl, by decide +kernel, by decide +kernel⟩
theorem ok_cellsAll {f : Addr} {fd : FuncData} (F : Fun K "all_cells" "all_cells" sAllCells f fd) (T : Txt mg) (HW : Has P w K mg base "all_within" ["marks"] 1 spWithin) : FnOk P w K mg base CX0 2 f fd ["many"] spCellsAll := by
  refine F.ok scAllCells (fun vs H Q E h => ?_) (fun cdv A outer s H vs Q E hr h => ?_)
  · obtain ⟨n, rfl, _⟩ := h
    rfl
  · obtain ⟨n, rfl, n0, n6, k⟩ := h
    refine ⟨_, (pss_one (ps_ret (pe_callH HW (hr.mono (by decide)) rfl (pa_cons (pe_tupRg rfl rfl T.tuple (prg_1 rfl T.range (pv 0))) pa_nil)))), ?_⟩
    refine ⟨_, rfl, _, rfl, RgOk.of_le (by omega) (by omega) (by omega) (by omega), fun t ht => ?_⟩
    have et : (upd H t (.tup (rgV 0 n))) t = some (.tup ((rng n).map V.int)) := by rw [upd_same, rgV_rng]
    have s3 : Same H (upd H t (.tup (rgV 0 n))) := Same.new ht
    generalize upd H t (.tup (rgV 0 n)) = H3 at *
    refine ⟨t, rng n, rfl, et, by rw [rng_len]; omega, fun q ys cs H4 eq mk up perm s4 hq => ?_⟩
    exact k q ys cs H4 eq mk up perm (s3.trans s4) (s3.free hq)
end
end Xci

namespace Xci
open PySem L2
/-- a saying over marks -/
inductive Saying
  | nev (ms : List Int)
  | som (ms : List Int)
  | thn (ms ns : List Int)
def Saying.word : Saying → Str
  | .nev _ => "never"
  | .som _ => "some"
  | .thn _ _ => "then"
def Saying.parts : Saying → List (List Int)
  | .nev ms => [ms]
  | .som ms => [ms]
  | .thn ms ns => [ms, ns]
def SayAt (H : Hp) (v : V) (s : Saying) : Prop := ∃ p ys, v = .ref p ∧ H p = some (.tup (.str s.word :: ys)) ∧ Mks H ys s.parts
theorem SayAt.tfr {H H' : Hp} {v : V} {s : Saying} (f : TFr H H') (h : SayAt H v s) : SayAt H' v s := by
  obtain ⟨p, ys, rfl, hp, m⟩ := h
  exact ⟨p, ys, rfl, f _ _ hp, m.keep f⟩
def keepsB (c : List Int) : Saying → Bool
  | .nev ms => !inside ms c
  | .som ms => ms.any fun m => decide (m ∈ c)
  | .thn ms ns => !inside ms c || inside ns c
abbrev Says (H : Hp) (vs : List V) (ss : List Saying) : Prop := Paired (SayAt H) vs ss
def spKeeps : Sp := fun vs H Q _ => ∃ (u v : V) (c : List Int) (s : Saying), vs = [u, v] ∧ Xci.Mk H u c ∧ SayAt H v s ∧ (∀ m ∈ s.parts, m.length ≤ 64) ∧ ∀ H', Same H H' → Q (.bl (keepsB c s)) H'
def spKeepsL : Sp := fun vs H Q _ => ∃ (u : V) (p : Addr) (xs : List V) (c : List Int) (ss : List Saying), vs = [u, .ref p] ∧ Xci.Mk H u c ∧ H p = some (.lst xs) ∧ Says H xs ss ∧ (∀ s ∈ ss, ∀ m ∈ s.parts, m.length ≤ 64) ∧ ∀ H', Same H H' → Q (.bl (ss.all (keepsB c))) H'
def spKeepsT : Sp := fun vs H Q _ => ∃ (u : V) (p : Addr) (xs : List V) (c : List Int) (ss : List Saying), vs = [u, .ref p] ∧ Xci.Mk H u c ∧ H p = some (.tup xs) ∧ Says H xs ss ∧ (∀ s ∈ ss, ∀ m ∈ s.parts, m.length ≤ 64) ∧ ∀ H', Same H H' → Q (.bl (ss.all (keepsB c))) H'
section
variable {P : Program} {w : World} {K : PySem.W.Frag} {mg : Str → Option Value} {base : Heap}
abbrev sLiesWithin : Stmt := top 11
theorem scLiesWithin : FnScope ["inner", "outer", "mark"] ["inner", "outer"] (defScope sLiesWithin) := ⟨rfl, rfl, rfl, by decide +kernel, rfl, by decide +kernel, by decide +kernel⟩

theorem ok_lies {f : Addr} {fd : FuncData} (F : Fun K "lies_within" "lies_within" sLiesWithin f fd) : FnOk P w K mg base CX0 1 f fd ["inner", "outer"] spLies := by
  refine F.ok scLiesWithin (fun vs H Q E h => ?_) (fun cdv A outer s H vs Q E hr h => ?_)
  · obtain ⟨u, v, ms, ns, rfl, _⟩ := h
    rfl
  · obtain ⟨u, v, ms, ns, rfl, ⟨p, rfl, hp⟩, ⟨q, rfl, hq⟩, k⟩ := h
    refine ⟨_, (pss_cons (ps_for PassesOwn.never rfl (pi_tup (pv 0)) (pg_name (i := 2) scLiesWithin.nd rfl (by first | exact Or.inl rfl | exact Or.inr rfl)) (pss_one (ps_if (pt_cmpR op_notIn_seq (pv 2) (pv 1) (by with_unfolding_all rfl)) (pss_one (ps_ret pe_bl)) pss_nil)))
      (pss_one (ps_ret pe_bl))), ?_⟩
    refine ⟨_, rfl, p, rfl, ⟨_, sqT hp⟩, for_tup (K := K) (a := p) (xs := ms.map V.int) (fun i σ H2 => H2 = H ∧ inside (ms.take i) ns = true ∧ ∃ v : Option V, σ = [some (.ref p), some (.ref q), v]) ⟨rfl, rfl, none, rfl⟩ (fun i σ H2 _ ⟨e, _⟩ => by rw [e]; exact sqT hp) ?_ ?_⟩
    · rintro i y σ H2 hi ⟨rfl, hin, v, rfl⟩
      obtain ⟨m, hm, rfl⟩ := int_of hi
      have mem := List.mem_of_getElem? hm
      refine ⟨_, rfl, _, rfl, q, _, rfl, .inr (sqT hq), rfl, flat_ints ns, _, rfl, ?_⟩
      rw [inV_int]
      refine ite2 (fun hn => ?_) (fun hn => ?_)
      · have hn' : ¬ m ∈ ns := by simpa using hn
        have e : inside ms ns = false := by
          cases hh : inside ms ns with
          | false => rfl
          | true => exact absurd (of_decide_eq_true (List.all_eq_true.mp hh m mem)) hn'
        rw [e] at k
        exact k
      · have hn' : m ∈ ns := by simpa using hn
        refine ⟨rfl, ?_, _, rfl⟩
        have et : ms.take (i + 1) = ms.take i ++ [m] := by rw [List.take_add_one, hm]; rfl
        unfold inside at hin ⊢
        rw [et, List.all_append, hin]
        simp [hn']
    · rintro σ H2 ⟨rfl, hin, v, rfl⟩
      rw [List.length_map, List.take_length] at hin
      rw [hin] at k
      exact k

abbrev sKeeps : Stmt := top 28
theorem scKeeps : FnScope ["cell", "saying", "mark"] ["cell", "saying"] (defScope sKeeps) := ⟨rfl, rfl, rfl, by decide +kernel, rfl, by decide +kernel, by decide +kernel⟩
theorem ok_keeps {f : Addr} {fd : FuncData} (F : Fun K "_keeps" "_keeps" sKeeps f fd) (T : Txt mg) (HLi : Has P w K mg base "lies_within" ["inner", "outer"] 1 spLies) : FnOk P w K mg base CX0 2 f fd ["cell", "saying"] spKeeps := by
  refine F.ok scKeeps (fun vs H Q E h => ?_) (fun cdv A outer s H vs Q E hr h => ?_)
  · obtain ⟨u, v, c, s, rfl, _⟩ := h
    rfl
  · obtain ⟨u, v, c, y, rfl, ⟨pu, rfl, hu⟩, ⟨pv', ys, rfl, hv, mk⟩, lens, k⟩ := h
    refine ⟨_, (pss_cons (ps_if (pt_cmpR op_eq (pe_ix ix_tup (pv 1) pe_int (fun _ _ => rfl)) pe_str (nomark _)) (pss_one (ps_ret (pe_callB (cr_any rfl) rfl T.any (by decide +kernel) (pa_cons (pe_lc (own := [("mark", 2)]) rfl scKeeps.nd (pi_tup (pe_ix ix_tup (pv 1) pe_int (fun _ _ => rfl))) (blkOk_by (N := ["cell", "saying", "mark"]) (sc := defScope sKeeps) (by decide +kernel)) (fun _ _ _ _ _ => (pg_name (i := 2) scKeeps.nd rfl (by first | exact Or.inl rfl | exact Or.inr rfl))) (fun _ _ _ _ _ => pts_nil) (fun _ _ _ _ _ => (pe_cmpR (show OpR _ _ (rIn K false) from op_in_seq) (pv 2) (pv 0) (by with_unfolding_all rfl)))) pa_nil)))) pss_nil)
      (pss_cons (ps_if (pt_not (pt_val (pe_callH HLi (hr.mono (by decide)) rfl (pa_cons (pe_ix ix_tup (pv 1) pe_int (fun _ _ => rfl)) (pa_cons (pv 0) pa_nil))))) (pss_one (ps_ret pe_bl)) pss_nil)
      (pss_one (ps_ret (pe_and (pe_cmpR op_eq (pe_ix ix_tup (pv 1) pe_int (fun _ _ => rfl)) pe_str (nomark _)) (pe_one (pe_callH HLi (hr.mono (by decide)) rfl (pa_cons (pe_ix ix_tup (pv 1) pe_int (fun _ _ => rfl)) (pa_cons (pv 0) pa_nil))))))))), ?_⟩
    cases y with
    | som ms =>
      obtain ⟨y1, r1, rfl, m1, mr⟩ : ∃ y1 r1, ys = y1 :: r1 ∧ Xci.Mk H y1 ms ∧ Mks H r1 [] := by cases mk with | cons h t => exact ⟨_, _, rfl, h, t⟩
      refine ⟨_, rfl, pv', _, _, _, rfl, rfl, sqT hv, at_of (j := 0) rfl rfl, rfl, ?_⟩
      obtain ⟨p1, rfl, h1⟩ := m1
      refine ⟨_, rfl, iteT ?_⟩
      refine ⟨_, rfl, pv', _, _, _, rfl, rfl, sqT hv, at_of (j := 1) rfl rfl, p1, rfl, ⟨_, sqT h1⟩, fun D hD => ?_⟩
      have l64 : ms.length ≤ 64 := lens ms (List.mem_singleton.mpr rfl)
      refine lc_tup (K := K) (a := p1) (xs := ms.map V.int) (fun j H4 => Same H H4 ∧ H4 D = some (.lst (((ms.take j).map fun m => decide (m ∈ c)).map V.bl))) ⟨Same.new hD, upd_same⟩ (fun j H4 _ ⟨e, _⟩ => sqT (e _ _ h1)) ?_ ?_
      · rintro j x H4 hj ⟨s4, e4⟩
        obtain ⟨m, hm, rfl⟩ := int_of hj
        have lj := (List.getElem?_eq_some_iff.mp hm).1
        refine ⟨rfl, _, rfl, _, rfl, pu, _, rfl, .inr (sqT (s4 _ _ hu)), rfl, flat_ints c, ?_⟩
        refine ⟨_, e4, (by rw [List.length_map, List.length_map, List.length_take]; exact small1000 (by omega)), ?_⟩
        refine ⟨fun b o h => by rw [upd_ne (ne_of_none h hD)]; exact s4 _ _ h, ?_⟩
        rw [upd_same, List.take_add_one, hm, List.map_append, List.map_append]
        show some (HO.lst (_ ++ [V.bl (inV (.int m) (c.map V.int))])) = _
        rw [inV_int]
        rfl
      · rintro H4 ⟨s4, e4⟩
        rw [List.length_map, List.take_length] at e4
        refine ⟨D, _, rfl, SqL.of e4, ?_⟩
        have q := k H4 s4
        have e : keepsB c (.som ms) = ((ms.map fun m => decide (m ∈ c)).any id) := by rw [List.any_map]; rfl
        rw [e] at q
        exact q
    | nev ms =>
      obtain ⟨y1, r1, rfl, m1, mr⟩ : ∃ y1 r1, ys = y1 :: r1 ∧ Xci.Mk H y1 ms ∧ Mks H r1 [] := by cases mk with | cons h t => exact ⟨_, _, rfl, h, t⟩
      refine ⟨_, rfl, pv', _, _, _, rfl, rfl, sqT hv, at_of (j := 0) rfl rfl, rfl, ?_⟩
      refine ⟨_, rfl, iteF ?_⟩
      refine ⟨_, rfl, pv', _, _, _, rfl, rfl, sqT hv, at_of (j := 1) rfl rfl, _, rfl, y1, .ref pu, ms, c, rfl, m1, ⟨pu, rfl, hu⟩, _, rfl, ?_⟩
      have q := k H (Same.refl H)
      cases hin : inside ms c with
      | false =>
        refine iteT ?_
        rw [show keepsB c (.nev ms) = true by show (!inside ms c) = true; rw [hin]; rfl] at q
        exact q
      | true =>
        refine iteF ?_
        rw [show keepsB c (.nev ms) = false by show (!inside ms c) = false; rw [hin]; rfl] at q
        refine ⟨_, rfl, pv', _, _, _, rfl, rfl, sqT hv, at_of (j := 0) rfl rfl, rfl, ?_⟩
        refine ⟨_, rfl, ?_⟩
        refine iteF ?_
        exact q
    | thn ms ns =>
      obtain ⟨y1, y2, r1, rfl, m1, m2, mr⟩ : ∃ y1 y2 r1, ys = y1 :: y2 :: r1 ∧ Xci.Mk H y1 ms ∧ Xci.Mk H y2 ns ∧ Mks H r1 [] := by cases mk with | cons h t => cases t with | cons h2 t2 => exact ⟨_, _, _, rfl, h, h2, t2⟩
      refine ⟨_, rfl, pv', _, _, _, rfl, rfl, sqT hv, at_of (j := 0) rfl rfl, rfl, ?_⟩
      refine ⟨_, rfl, iteF ?_⟩
      refine ⟨_, rfl, pv', _, _, _, rfl, rfl, sqT hv, at_of (j := 1) rfl rfl, _, rfl, y1, .ref pu, ms, c, rfl, m1, ⟨pu, rfl, hu⟩, _, rfl, ?_⟩
      have q := k H (Same.refl H)
      cases hin : inside ms c with
      | false =>
        refine iteT ?_
        rw [show keepsB c (.thn ms ns) = true by show (!inside ms c || inside ns c) = true; rw [hin]; rfl] at q
        exact q
      | true =>
        refine iteF ?_
        rw [show keepsB c (.thn ms ns) = inside ns c by show (!inside ms c || inside ns c) = _; rw [hin]; rfl] at q
        refine ⟨_, rfl, pv', _, _, _, rfl, rfl, sqT hv, at_of (j := 0) rfl rfl, rfl, ?_⟩
        refine ⟨_, rfl, ?_⟩
        refine iteT ?_
        exact ⟨_, rfl, pv', _, _, _, rfl, rfl, sqT hv, at_of (j := 2) rfl rfl, _, rfl, y2, .ref pu, ns, c, rfl, m2, ⟨pu, rfl, hu⟩, q⟩
abbrev sKeepsAll : Stmt := top 27
theorem scKeepsAll : FnScope ["cell", "sayings", "saying"] ["cell", "sayings"] (defScope sKeepsAll) := ⟨rfl, rfl, rfl, by decide +kernel, rfl, by decide +kernel, by decide +kernel⟩
theorem says_tk {c : List Int} {ss : List Saying} {s : Saying} {i : Nat} (h : ss[i]? = some s) : (ss.take (i + 1)).all (keepsB c) = ((ss.take i).all (keepsB c) && keepsB c s) := by
  rw [List.take_add_one, h, List.all_append]
  show (_ && (keepsB c s && true)) = _
  rw [Bool.and_true]
theorem says_bad {c : List Int} {ss : List Saying} {s : Saying} {i : Nat} (h : ss[i]? = some s) (b : keepsB c s = false) : ss.all (keepsB c) = false := by
  cases e : ss.all (keepsB c) with
  | false => rfl
  | true =>
    rw [List.all_eq_true.mp e s (List.mem_of_getElem? h)] at b
    cases b
theorem ok_keepsAllL {f : Addr} {fd : FuncData} (F : Fun K "_keeps_all" "_keeps_all" sKeepsAll f fd) (HKe : Has P w K mg base "_keeps" ["cell", "saying"] 2 spKeeps) : FnOk P w K mg base CX0 3 f fd ["cell", "sayings"] spKeepsL := by
  refine F.ok scKeepsAll (fun vs H Q E h => ?_) (fun cdv A outer s H vs Q E hr h => ?_)
  · obtain ⟨u, p, xs, c, ss, rfl, _⟩ := h
    rfl
  · obtain ⟨u, p, xs, c, ss, rfl, ⟨pu, rfl, hu⟩, hp, sy, lens, k⟩ := h
    refine ⟨_, (pss_cons (ps_for PassesOwn.never rfl (pi_list (pv 1)) (pg_name (i := 2) scKeepsAll.nd rfl (by first | exact Or.inl rfl | exact Or.inr rfl)) (pss_one (ps_if (pt_not (pt_val (pe_callH HKe (hr.mono (by decide)) rfl (pa_cons (pv 0) (pa_cons (pv 2) pa_nil))))) (pss_one (ps_ret pe_bl)) pss_nil)))
      (pss_one (ps_ret pe_bl))), ?_⟩
    refine ⟨_, rfl, p, rfl, ⟨_, SqL.of hp⟩, for_list (K := K) (a := p) (xs := xs) (fun i σ H2 => Same H H2 ∧ (ss.take i).all (keepsB c) = true ∧ ∃ v : Option V, σ = [some (.ref pu), some (.ref p), v]) ⟨Same.refl H, rfl, none, rfl⟩ (fun i σ H2 _ ⟨e, _⟩ => SqL.of (e _ _ hp)) ?_ ?_⟩
    · rintro i y σ H2 hi ⟨s2, al, v, rfl⟩
      obtain ⟨sa, hs, at_⟩ := Paired.get sy hi
      refine ⟨_, rfl, _, rfl, .ref pu, y, c, sa, rfl, ⟨pu, rfl, s2 _ _ hu⟩, at_.tfr (TFr.same s2), lens sa (List.mem_of_getElem? hs), fun H3 s3 => ?_⟩
      refine ⟨_, rfl, ?_⟩
      cases hk : keepsB c sa with
      | true =>
        refine iteF ?_
        exact ⟨s2.trans s3, by rw [says_tk hs, al, hk]; rfl, _, rfl⟩
      | false =>
        refine iteT ?_
        have q := k H3 (s2.trans s3)
        rw [says_bad hs hk] at q
        exact q
    · rintro σ H2 ⟨s2, al, v, rfl⟩
      rw [show xs.length = ss.length from Paired.length sy, List.take_length] at al
      have q := k H2 s2
      rw [al] at q
      exact q
theorem ok_keepsAllT {f : Addr} {fd : FuncData} (F : Fun K "_keeps_all" "_keeps_all" sKeepsAll f fd) (HKe : Has P w K mg base "_keeps" ["cell", "saying"] 2 spKeeps) : FnOk P w K mg base CX0 3 f fd ["cell", "sayings"] spKeepsT := by
  refine F.ok scKeepsAll (fun vs H Q E h => ?_) (fun cdv A outer s H vs Q E hr h => ?_)
  · obtain ⟨u, p, xs, c, ss, rfl, _⟩ := h
    rfl
  · obtain ⟨u, p, xs, c, ss, rfl, ⟨pu, rfl, hu⟩, hp, sy, lens, k⟩ := h
    refine ⟨_, (pss_cons (ps_for PassesOwn.never rfl (pi_tup (pv 1)) (pg_name (i := 2) scKeepsAll.nd rfl (by first | exact Or.inl rfl | exact Or.inr rfl)) (pss_one (ps_if (pt_not (pt_val (pe_callH HKe (hr.mono (by decide)) rfl (pa_cons (pv 0) (pa_cons (pv 2) pa_nil))))) (pss_one (ps_ret pe_bl)) pss_nil)))
      (pss_one (ps_ret pe_bl))), ?_⟩
    refine ⟨_, rfl, p, rfl, ⟨_, sqT hp⟩, for_tup (K := K) (a := p) (xs := xs) (fun i σ H2 => Same H H2 ∧ (ss.take i).all (keepsB c) = true ∧ ∃ v : Option V, σ = [some (.ref pu), some (.ref p), v]) ⟨Same.refl H, rfl, none, rfl⟩ (fun i σ H2 _ ⟨e, _⟩ => sqT (e _ _ hp)) ?_ ?_⟩
    · rintro i y σ H2 hi ⟨s2, al, v, rfl⟩
      obtain ⟨sa, hs, at_⟩ := Paired.get sy hi
      refine ⟨_, rfl, _, rfl, .ref pu, y, c, sa, rfl, ⟨pu, rfl, s2 _ _ hu⟩, at_.tfr (TFr.same s2), lens sa (List.mem_of_getElem? hs), fun H3 s3 => ?_⟩
      refine ⟨_, rfl, ?_⟩
      cases hk : keepsB c sa with
      | true =>
        refine iteF ?_
        exact ⟨s2.trans s3, by rw [says_tk hs, al, hk]; rfl, _, rfl⟩
      | false =>
        refine iteT ?_
        have q := k H3 (s2.trans s3)
        rw [says_bad hs hk] at q
        exact q
    · rintro σ H2 ⟨s2, al, v, rfl⟩
      rw [show xs.length = ss.length from Paired.length sy, List.take_length] at al
      have q := k H2 s2
      rw [al] at q
      exact q
end
end Xci

namespace Xci
open PySem L2
def spIsSaying : Sp := fun vs H Q _ => ∃ (n : Int) (v : V) (s : Saying), vs = [.int n, v] ∧ SayAt H v s ∧ (∀ m ∈ s.parts, MarksOk n m) ∧ ∀ H', Same H H' → Q (.bl true) H'
/-- the words of sayings, written in a dict of the module -/
structure SayCst (K : PySem.W.Frag) (w : World) (mg : Str → Option Value) (aS : Addr) : Prop where
  at_ : mg "SAYINGS" = some (.ref aS)
  dict : ∃ es n, KDict K w aS es n
  nev : ∃ t, PySem.W.nsIn K aS "never" = some (some (.int 1 t))
  som : ∃ t, PySem.W.nsIn K aS "some" = some (some (.int 1 t))
  thn : ∃ t, PySem.W.nsIn K aS "then" = some (some (.int 2 t))
theorem SayCst.word {K : PySem.W.Frag} {w : World} {mg : Str → Option Value} {aS : Addr} (c : SayCst K w mg aS) (s : Saying) : ∃ t, PySem.W.nsIn K aS s.word = some (some (.int (s.parts.length : Int) t)) := by
  cases s with
  | nev ms => exact c.nev
  | som ms => exact c.som
  | thn ms ns => exact c.thn
theorem slice1 {K : PySem.W.Frag} {σ : St} {H : Hp} {p : Addr} {x : V} {ys : List V} {Q : VK} (hp : H p = some (.tup (x :: ys))) (k : ∀ q, H q = none → Q (.ref q) (upd H q (.tup ys))) : tNoPart σ H fun u H3 => rSlA K (.ref p) (some 1) u H3 Q := by
  refine (show rSlA K (.ref p) (some 1) none H Q from ?_)
  refine ⟨p, _, rfl, sqT hp, fun full => ?_, fun _ q hq => ?_⟩
  · have z := full.1
    rw [show (1 : Int) = ((1 : Nat) : Int) from rfl, HT.sIx_nat, List.length_cons] at z
    omega
  have ec : cutV (x :: ys) (some (1 : Int)) none = ys := by
    rw [show (1 : Int) = ((1 : Nat) : Int) from rfl, cutFromD]
    rfl
  rw [ec]
  exact k q hq
section
variable {P : Program} {w : World} {K : PySem.W.Frag} {mg : Str → Option Value} {base : Heap}
abbrev sIsSaying : Stmt := top 26
theorem scIsSaying : FnScope ["many", "thing", "marks"] ["many", "thing"] (defScope sIsSaying) := ⟨rfl, rfl, rfl, by decide +kernel, rfl, by decide +kernel, by decide +kernel⟩
theorem ok_isSaying {f aS : Addr} {fd : FuncData} (F : Fun K "_is_saying" "_is_saying" sIsSaying f fd) (T : Txt mg) (c : SayCst K w mg aS) (HC : Has P w K mg base "is_cell" ["many", "thing"] 3 spIsCell) : FnOk P w K mg base CX0 4 f fd ["many", "thing"] spIsSaying := by
  obtain ⟨es, en, D⟩ := c.dict
  refine F.ok scIsSaying (fun vs H Q E h => ?_) (fun cdv A outer s H vs Q E hr h => ?_)
  · obtain ⟨n, v, y, rfl, _⟩ := h
    rfl
  · obtain ⟨n, v, y, rfl, ⟨p, ys, rfl, hp, mk⟩, ok, k⟩ := h
    refine ⟨_, (pss_cons (ps_if (PW.pt (pw_or (pt_not (pt_val (pe_callB call_isi rfl T.isinstance (by decide +kernel) (pa_cons (pv 1) (pa_cons (pe_bltn rfl T.tuple (by decide +kernel) (v := V.ty "tuple") rfl) pa_nil))))) (pw_or (pt_not (pt_truth (pv 1) (fun _ => rfl))) (pw_or1 (pt_not (pt_val (pe_callB call_isi rfl T.isinstance (by decide +kernel) (pa_cons (pe_ix ix_tup (pv 1) pe_int (fun _ _ => rfl)) (pa_cons (pe_bltn rfl T.str (by decide +kernel) (v := V.ty "str") rfl) pa_nil))))))))) (pss_one (ps_ret pe_bl)) pss_nil)
      (pss_cons (ps_if (pt_cmpR op_ne (pe_getK D (pe_glob (v := .ref aS) rfl c.at_ rfl) (pe_ix ix_tup (pv 1) pe_int (fun _ _ => rfl)) ⟨rfl, rfl, rfl, rfl⟩) (pe_op op_sub (pe_callB call_len rfl T.len PySem.boot_len (pa_cons (pv 1) pa_nil)) pe_int) (nomark _)) (pss_one (ps_ret pe_bl)) pss_nil)
      (pss_cons (ps_for PassesOwn.never rfl (pi_tup (pe_slice sl_tupA (pv 1) (po_some pe_int) po_none)) (pg_name (i := 2) scIsSaying.nd rfl (by first | exact Or.inl rfl | exact Or.inr rfl)) (pss_one (ps_if (pt_not (pt_val (pe_callH HC (hr.mono (by decide)) rfl (pa_cons (pv 0) (pa_cons (pv 2) pa_nil))))) (pss_one (ps_ret pe_bl)) pss_nil)))
      (pss_one (ps_ret pe_bl))))), ?_⟩
    obtain ⟨wt, hw⟩ := c.word y
    have lys : ys.length = y.parts.length := Paired.length mk
    refine ⟨_, rfl, _, _, _, _, true, rfl, .ty _, .base (.tup hp), kit_ty (by decide +kernel), _, rfl, ?_⟩
    refine ⟨_, rfl, true, .inr (.inl ⟨_, sqT hp, rfl⟩), ?_⟩
    refine ⟨_, rfl, p, _, _, _, rfl, rfl, sqT hp, at_of (j := 0) rfl rfl, _, _, _, _, true, rfl, .ty _, .base (.str _), kit_ty (by decide +kernel), _, rfl, ?_⟩
    refine iteF ?_
    refine ⟨rfl, _, rfl, p, _, _, _, rfl, rfl, sqT hp, at_of (j := 0) rfl rfl, y.word, _, .int (y.parts.length : Int), rfl, hw, ⟨wt, rfl⟩, ?_⟩
    refine ⟨_, rfl, _, (V.str y.word :: ys).length, rfl, .inr ⟨_, sqT hp, rfl⟩, _, _, rfl, rfl, rfl, _, rfl, ?_⟩
    have e9 : (fun (i j : Int) => V.int (i - j)) (((V.str y.word :: ys).length : Nat) : Int) 1 = V.int (y.parts.length : Int) := by
      show V.int _ = _
      rw [List.length_cons, lys, show ((y.parts.length + 1 : Nat) : Int) - 1 = (y.parts.length : Int) by omega]
    rw [e9, decide_eq_true rfl]
    refine iteF ?_
    refine ⟨_, rfl, _, rfl, ?_⟩
    refine slice1 hp (fun q hq => ?_)
    have s1 : Same H (upd H q (.tup ys)) := Same.new hq
    have e1 : (upd H q (.tup ys)) q = some (.tup ys) := upd_same
    generalize upd H q (.tup ys) = H1 at *
    have mk1 := mk.keep (TFr.same s1)
    refine ⟨q, rfl, ⟨_, sqT e1⟩, for_tup (K := K) (a := q) (xs := ys) (fun i σ H2 => H2 = H1 ∧ ∃ o : Option V, σ = [some (.int n), some (.ref p), o]) ⟨rfl, none, rfl⟩ (fun i σ H2 _ ⟨e, _⟩ => by rw [e]; exact sqT e1) ?_ ?_⟩
    · rintro i v σ H2 hi ⟨rfl, o, rfl⟩
      obtain ⟨ms, hms, mv⟩ := Paired.get mk1 hi
      refine ⟨_, rfl, _, rfl, n, v, ms, rfl, mv, ok ms (List.mem_of_getElem? hms), _, rfl, ?_⟩
      refine iteF ?_
      exact ⟨rfl, _, rfl⟩
    · rintro σ H2 ⟨rfl, o, rfl⟩
      exact k _ s1
end
end Xci

namespace Xci
open PySem L2
def SaysAt (b : Bool) (H : Hp) (p : Addr) (xs : List V) (ss : List Saying) (n : Int) : Prop := H p = some (if b = true then .lst xs else .tup xs) ∧ Says H xs ss ∧ (∀ s ∈ ss, ∀ m ∈ s.parts, MarksOk n m)
def spAreSays (b : Bool) : Sp := fun vs H Q _ => ∃ (n : Int) (p : Addr) (xs : List V) (ss : List Saying), vs = [.int n, .ref p] ∧ SaysAt b H p xs ss n ∧ ss.length ≤ 20 ∧ ∀ H', Same H H' → Q (.bl true) H'
structure MsCst (mg : Str → Option Value) where
  t1 : Tok
  MOST_SAYINGS : mg "MOST_SAYINGS" = some (.int 20 t1)
theorem isi_lt2 {K : PySem.W.Frag} : PySem.W.kitAny K (.type "list") [.type "list", .type "tuple"] = some true :=
  kitAny_cons (b := true) (kit_ty (by decide +kernel)) (fun h => by cases h) (fun _ => rfl)
theorem isi_lt2T {K : PySem.W.Frag} : PySem.W.kitAny K (.type "tuple") [.type "list", .type "tuple"] = some true :=
  kitAny_cons (b := false) (kit_ty (by decide +kernel)) (fun _ => kitAny_cons (b := true) (kit_ty (by decide +kernel)) (fun h => by cases h) (fun _ => rfl)) (fun h => by cases h)
theorem says_keep {H H' : Hp} (f : TFr H H') {xs : List V} {ss : List Saying} (h : Says H xs ss) : Says H' xs ss := by
  induction h with
  | nil => exact .nil
  | cons a r ih => exact .cons (a.tfr f) ih
section
variable {P : Program} {w : World} {K : PySem.W.Frag} {mg : Str → Option Value} {base : Heap}
abbrev sAreSayings : Stmt := top 25
theorem scAreSayings : FnScope ["many", "thing", "saying"] ["many", "thing"] (defScope sAreSayings) := ⟨rfl, rfl, rfl, by decide +kernel, rfl, by decide +kernel, by decide +kernel⟩
theorem ok_areSaysL {f : Addr} {fd : FuncData} (F : Fun K "_are_sayings" "_are_sayings" sAreSayings f fd) (T : Txt mg) (c : MsCst mg) (HI : Has P w K mg base "_is_saying" ["many", "thing"] 4 spIsSaying) : FnOk P w K mg base CX0 5 f fd ["many", "thing"] (spAreSays true) := by
  refine F.ok scAreSayings (fun vs H Q E h => ?_) (fun cdv A outer s H vs Q E hr h => ?_)
  · obtain ⟨n, p, ys, rs, rfl, _⟩ := h
    rfl
  · obtain ⟨n, p, ys, rs, rfl, ⟨hp, rl, ok⟩, few, k⟩ := h
    have hp : H p = some (.lst ys) := hp
    have yl : ys.length = rs.length := Paired.length rl
    refine ⟨_, (pss_cons (ps_if (PW.pt (pw_or (pt_not (pt_val (pe_callB call_isiT rfl T.isinstance (by decide +kernel) (pa_cons (pv 1) (pa_cons (pe_tup (pa_cons (pe_bltn rfl T.list (by decide +kernel) (v := V.ty "list") rfl) (pa_cons (pe_bltn rfl T.tuple (by decide +kernel) (v := V.ty "tuple") rfl) pa_nil))) pa_nil))))) (pw_or1 (pt_cmpR op_gt (pe_callB call_len rfl T.len PySem.boot_len (pa_cons (pv 1) pa_nil)) (pe_gint rfl c.MOST_SAYINGS) (nomark _))))) (pss_one (ps_ret pe_bl)) pss_nil)
      (pss_cons (ps_for PassesOwn.never rfl (pi_list (pv 1)) (pg_name (i := 2) scAreSayings.nd rfl (by first | exact Or.inl rfl | exact Or.inr rfl)) (pss_one (ps_if (pt_not (pt_val (pe_callH HI (hr.mono (by decide)) rfl (pa_cons (pv 0) (pa_cons (pv 2) pa_nil))))) (pss_one (ps_ret pe_bl)) pss_nil)))
      (pss_one (ps_ret pe_bl)))), ?_⟩
    refine ⟨_, rfl, (by show 2 ≤ sizeLine; decide), fun t ht => ?_⟩
    have et : (upd H t (.tup [.ty "list", .ty "tuple"])) t = some (.tup [.ty "list", .ty "tuple"]) := upd_same
    have s1 : Same H (upd H t (.tup [.ty "list", .ty "tuple"])) := Same.new ht
    generalize upd H t (.tup [.ty "list", .ty "tuple"]) = H1 at *
    have hp1 := s1 _ _ hp
    refine ⟨_, t, _, _, [.type "list", .type "tuple"], true, rfl, et, .cons (.ty _) (.cons (.ty _) .nil), .base (.lst hp1), isi_lt2, _, rfl, ?_⟩
    refine ⟨_, rfl, _, ys.length, rfl, .inl ⟨_, SqL.of hp1, rfl⟩, _, _, rfl, rfl, _, rfl, ?_⟩
    refine ite2 (fun no => ?_) (fun _ => ?_)
    · have := of_decide_eq_true no
      omega
    refine ⟨_, rfl, p, rfl, ⟨_, SqL.of hp1⟩, for_list (K := K) (a := p) (xs := ys) (fun i σ H2 => Same H1 H2 ∧ ∃ v : Option V, σ = [some (.int n), some (.ref p), v]) ⟨Same.refl _, none, rfl⟩ (fun i σ H2 _ ⟨e, _⟩ => SqL.of (e _ _ hp1)) ?_ ?_⟩
    · rintro i y σ H2 hi ⟨s2, v, rfl⟩
      obtain ⟨r, hr', rv⟩ := Paired.get (says_keep (TFr.same (s1.trans s2)) rl) hi
      refine ⟨_, rfl, _, rfl, n, y, r, rfl, rv, ok r (List.mem_of_getElem? hr'), fun H3 s3 => ⟨_, rfl, ?_⟩⟩
      exact iteF ⟨s2.trans s3, _, rfl⟩
    · rintro σ H2 ⟨s2, v, rfl⟩
      exact k _ (s1.trans s2)
theorem ok_areSaysT {f : Addr} {fd : FuncData} (F : Fun K "_are_sayings" "_are_sayings" sAreSayings f fd) (T : Txt mg) (c : MsCst mg) (HI : Has P w K mg base "_is_saying" ["many", "thing"] 4 spIsSaying) : FnOk P w K mg base CX0 5 f fd ["many", "thing"] (spAreSays false) := by
  refine F.ok scAreSayings (fun vs H Q E h => ?_) (fun cdv A outer s H vs Q E hr h => ?_)
  · obtain ⟨n, p, ys, rs, rfl, _⟩ := h
    rfl
  · obtain ⟨n, p, ys, rs, rfl, ⟨hp, rl, ok⟩, few, k⟩ := h
    have hp : H p = some (.tup ys) := hp
    have yl : ys.length = rs.length := Paired.length rl
    refine ⟨_, (pss_cons (ps_if (PW.pt (pw_or (pt_not (pt_val (pe_callB call_isiT rfl T.isinstance (by decide +kernel) (pa_cons (pv 1) (pa_cons (pe_tup (pa_cons (pe_bltn rfl T.list (by decide +kernel) (v := V.ty "list") rfl) (pa_cons (pe_bltn rfl T.tuple (by decide +kernel) (v := V.ty "tuple") rfl) pa_nil))) pa_nil))))) (pw_or1 (pt_cmpR op_gt (pe_callB call_len rfl T.len PySem.boot_len (pa_cons (pv 1) pa_nil)) (pe_gint rfl c.MOST_SAYINGS) (nomark _))))) (pss_one (ps_ret pe_bl)) pss_nil)
      (pss_cons (ps_for PassesOwn.never rfl (pi_tup (pv 1)) (pg_name (i := 2) scAreSayings.nd rfl (by first | exact Or.inl rfl | exact Or.inr rfl)) (pss_one (ps_if (pt_not (pt_val (pe_callH HI (hr.mono (by decide)) rfl (pa_cons (pv 0) (pa_cons (pv 2) pa_nil))))) (pss_one (ps_ret pe_bl)) pss_nil)))
      (pss_one (ps_ret pe_bl)))), ?_⟩
    refine ⟨_, rfl, (by show 2 ≤ sizeLine; decide), fun t ht => ?_⟩
    have et : (upd H t (.tup [.ty "list", .ty "tuple"])) t = some (.tup [.ty "list", .ty "tuple"]) := upd_same
    have s1 : Same H (upd H t (.tup [.ty "list", .ty "tuple"])) := Same.new ht
    generalize upd H t (.tup [.ty "list", .ty "tuple"]) = H1 at *
    have hp1 := s1 _ _ hp
    refine ⟨_, t, _, _, [.type "list", .type "tuple"], true, rfl, et, .cons (.ty _) (.cons (.ty _) .nil), .base (.tup hp1), isi_lt2T, _, rfl, ?_⟩
    refine ⟨_, rfl, _, ys.length, rfl, .inr ⟨_, sqT hp1, rfl⟩, _, _, rfl, rfl, _, rfl, ?_⟩
    refine ite2 (fun no => ?_) (fun _ => ?_)
    · have := of_decide_eq_true no
      omega
    refine ⟨_, rfl, p, rfl, ⟨_, sqT hp1⟩, for_tup (K := K) (a := p) (xs := ys) (fun i σ H2 => Same H1 H2 ∧ ∃ v : Option V, σ = [some (.int n), some (.ref p), v]) ⟨Same.refl _, none, rfl⟩ (fun i σ H2 _ ⟨e, _⟩ => sqT (e _ _ hp1)) ?_ ?_⟩
    · rintro i y σ H2 hi ⟨s2, v, rfl⟩
      obtain ⟨r, hr', rv⟩ := Paired.get (says_keep (TFr.same (s1.trans s2)) rl) hi
      refine ⟨_, rfl, _, rfl, n, y, r, rfl, rv, ok r (List.mem_of_getElem? hr'), fun H3 s3 => ⟨_, rfl, ?_⟩⟩
      exact iteF ⟨s2.trans s3, _, rfl⟩
    · rintro σ H2 ⟨s2, v, rfl⟩
      exact k _ (s1.trans s2)
end
end Xci

namespace Xci
open PySem L2
theorem fam_all {n : Int} {cs : List (List Int)} (n0 : 0 ≤ n) (n4 : n ≤ 4) (p : cs.Perm (lots (rng n))) : FamOk n cs := by
  have l := p.length_eq
  rw [lots_len, rng_len] at l
  have h1 : 0 < 2 ^ n.toNat := Nat.two_pow_pos _
  have h2 : 2 ^ n.toNat ≤ 2 ^ 4 := Nat.pow_le_pow_right (by decide) (by omega)
  refine ⟨n0, by omega, fun e => ?_, by omega, p.nodup_iff.mpr (lots_nd (rng_ok n).nd), fun c hc => (rng_ok n).sub (lots_sub (p.subset hc))⟩
  rw [e] at l
  simp at l
  omega
def spWhole (CF : Addr) : Sp := fun vs H Q _ => ∃ n : Int, vs = [.int n] ∧ 0 ≤ n ∧ n ≤ 4 ∧ ∀ (x p : Addr) (ys : List V) (cs : List (List Int)) (H' : Hp), FamAt CF H' x n p → H' p = some (.tup ys) → Mks H' ys cs → cs.Pairwise leC → cs.Perm (lots (rng n)) → FamOk n cs → Same H H' → Q (.ref x) H'
theorem rng_takeN (n : Int) (i : Nat) (h : i ≤ n.toNat) : (rng n).take i = rng (i : Int) := by
  unfold rng
  rw [← List.map_take, Int.toNat_natCast]
  congr 1
  refine List.ext_getElem? fun j => ?_
  by_cases hj : j < i
  · rw [List.getElem?_take_of_lt hj, List.getElem?_range (by omega), List.getElem?_range hj]
  · rw [List.getElem?_eq_none (by rw [List.length_take]; omega), List.getElem?_eq_none (by rw [List.length_range]; omega)]
def lineC (k : Nat) : List (List Int) := (List.range k).map fun (i : Nat) => rng (i : Int)
theorem lineC_next (k : Nat) : lineC (k + 1) = lineC k ++ [rng (k : Int)] := by
  unfold lineC
  rw [List.range_succ, List.map_append]
  rfl
theorem lineC_len (k : Nat) : (lineC k).length = k := by unfold lineC; rw [List.length_map, List.length_range]
theorem fam_line {n : Int} (n0 : 0 ≤ n) (n6 : n ≤ 6) : FamOk n (lineC (n.toNat + 1)) := by
  refine ⟨n0, n6, fun e => ?_, by rw [lineC_len]; omega, ?_, fun c hc => ?_⟩
  · have := congrArg List.length e
    rw [lineC_len] at this
    cases this
  · unfold lineC List.Nodup
    rw [List.pairwise_map]
    refine List.nodup_range.imp fun {a b} hab e => hab ?_
    have := congrArg List.length e
    rw [rng_len, rng_len, Int.toNat_natCast, Int.toNat_natCast] at this
    exact this
  · unfold lineC at hc
    obtain ⟨i, hi, rfl⟩ := List.mem_map.mp hc
    have hi := List.mem_range.mp hi
    rw [← rng_takeN n i (by omega)]
    exact (rng_ok n).sub (List.take_sublist _ _)
def spLine (CF : Addr) : Sp := fun vs H Q _ => ∃ n : Int, vs = [.int n] ∧ 0 ≤ n ∧ n ≤ 6 ∧ ∀ (x p : Addr) (ys : List V) (H' : Hp), FamAt CF H' x n p → H' p = some (.tup ys) → Mks H' ys (lineC (n.toNat + 1)) → FamOk n (lineC (n.toNat + 1)) → Same H H' → Q (.ref x) H'
/-- the numbers that the families' file names -/
structure WhCst (mg : Str → Option Value) where
  t1 : Tok
  t2 : Tok
  OF : mg "MOST_MARKS_OF_WHOLE" = some (.int 4 t1)
  MOST_MARKS : mg "MOST_MARKS" = some (.int 6 t2)
section
variable {P : Program} {w : World} {K : PySem.W.Frag} {mg : Str → Option Value} {base : Heap}
abbrev sWhole : Stmt := top 22
theorem scWhole : FnScope ["many"] ["many"] (defScope sWhole) := ⟨rfl, rfl, rfl, by decide +kernel, rfl, by decide +kernel, by decide +kernel⟩
theorem ok_whole {f CF : Addr} {fd : FuncData} (F : Fun K "whole" "whole" sWhole f fd) (T : Txt mg) (c : WhCst mg) (HB : Has P w K mg base "is_between" ["low", "high", "thing"] 2 spBetween) (HA : Has P w K mg base "all_cells" ["many"] 2 spCellsAll)
    (HFm : HasC P w K mg base "Family" CF ["self", "many", "cells"] 5 (spFam CF)) : FnOk P w K mg base CX0 7 f fd ["many"] (spWhole CF) := by
  refine F.ok scWhole (fun vs H Q E h => ?_) (fun cdv A outer s H vs Q E hr h => ?_)
  · obtain ⟨n, rfl, _⟩ := h
    rfl
  · obtain ⟨n, rfl, n0, n4, k⟩ := h
    refine ⟨_, (pss_cons (ps_if (pt_not (pt_val (pe_callH HB (hr.mono (by decide)) rfl (pa_cons pe_int (pa_cons (pe_gint rfl c.OF) (pa_cons (pv 0) pa_nil)))))) (pss_one ps_never) pss_nil)
      (pss_one (ps_ret (pe_makeH HFm (hr.mono (by decide)) rfl (pa_cons (pv 0) (pa_cons (pe_callTy call_tuple_of rfl T.tuple (by decide +kernel) (pa_cons (pe_callH HA (hr.mono (by decide)) rfl (pa_cons (pv 0) pa_nil)) pa_nil)) pa_nil)))))), ?_⟩
    refine ⟨_, rfl, _, _, _, rfl, _, rfl, ?_⟩
    rw [decide_eq_true (show (0 : Int) ≤ n ∧ n ≤ 4 from ⟨n0, n4⟩)]
    refine iteF ?_
    refine ⟨_, rfl, _, rfl, n, rfl, n0, by omega, fun q ys cs H2 eq mk up perm s2 hq => ?_⟩
    refine ⟨q, ys, rfl, .inl ⟨SqL.of eq, fun t ht => ?_⟩⟩
    have s3 : Same H2 (upd H2 t (.tup ys)) := Same.new ht
    have e3 : (upd H2 t (.tup ys)) t = some (.tup ys) := upd_same
    generalize upd H2 t (.tup ys) = H3 at *
    have mk3 := mk.keep (TFr.same s3)
    have ok := fam_all n0 n4 perm
    intro x dx nx ny _
    refine made_fam nx ny e3 mk3 ok fun H4 fa s4 => ⟨rfl, ?_⟩
    exact k x t ys cs H4 fa (s4 _ _ e3) (mk3.keep (TFr.same s4)) up perm ok ((s2.trans s3).trans s4)
abbrev sLine : Stmt := top 23
theorem scLine : FnScope ["many", "length"] ["many"] (defScope sLine) := ⟨rfl, rfl, rfl, by decide +kernel, rfl, by decide +kernel, by decide +kernel⟩
theorem ok_line {f CF : Addr} {fd : FuncData} (F : Fun K "line" "line" sLine f fd) (T : Txt mg) (c : WhCst mg) (HB : Has P w K mg base "is_between" ["low", "high", "thing"] 2 spBetween)
    (HFm : HasC P w K mg base "Family" CF ["self", "many", "cells"] 5 (spFam CF)) : FnOk P w K mg base CX0 7 f fd ["many"] (spLine CF) := by
  refine F.ok scLine (fun vs H Q E h => ?_) (fun cdv A outer s H vs Q E hr h => ?_)
  · obtain ⟨n, rfl, _⟩ := h
    rfl
  · obtain ⟨n, rfl, n0, n6, k⟩ := h
    refine ⟨_, (pss_cons (ps_if (pt_not (pt_val (pe_callH HB (hr.mono (by decide)) rfl (pa_cons pe_int (pa_cons (pe_gint rfl c.MOST_MARKS) (pa_cons (pv 0) pa_nil)))))) (pss_one ps_never) pss_nil)
      (pss_one (ps_ret (pe_makeH HFm (hr.mono (by decide)) rfl (pa_cons (pv 0) (pa_cons (pe_callTy call_tuple_of rfl T.tuple (by decide +kernel) (pa_cons (pe_lc (own := [("length", 1)]) rfl scLine.nd (pi_range1 rfl T.range (pa_cons (pe_op op_add (pv 0) pe_int) pa_nil)) (blkOk_by (N := ["many", "length"]) (sc := defScope sLine) (by decide +kernel)) (fun _ _ _ _ _ => (pg_name (i := 1) scLine.nd rfl (by first | exact Or.inl rfl | exact Or.inr rfl))) (fun _ _ _ _ _ => pts_nil) (fun _ _ _ _ _ => (pe_tupRg rfl rfl T.tuple (prg_1 rfl T.range (pv 1))))) pa_nil)) pa_nil)))))), ?_⟩
    refine ⟨_, rfl, _, _, _, rfl, _, rfl, ?_⟩
    rw [decide_eq_true (show (0 : Int) ≤ n ∧ n ≤ 6 from ⟨n0, n6⟩)]
    refine iteF ?_
    refine ⟨_, rfl, _, rfl, _, _, rfl, rfl, _, rfl, by omega, by omega, fun D hD => ?_⟩
    refine lc_range (n := (n + 1).toNat) (fun j H4 => ∃ zs : List V, Same H H4 ∧ H4 D = some (.lst zs) ∧ Mks H4 zs (lineC j)) ⟨[], Same.new hD, upd_same, .nil⟩ ?_ ?_
    · rintro j H4 hj ⟨zs, s4, e4, m4⟩
      have lz : zs.length = j := by rw [Paired.length m4, lineC_len]
      refine ⟨rfl, _, rfl, _, rfl, RgOk.of_le (by omega) (by omega) (by omega) (by omega), fun t ht => ?_⟩
      rw [Int.zero_add]
      have et : (upd H4 t (.tup (rgV 0 (j : Int)))) t = some (.tup ((rng (j : Int)).map V.int)) := by rw [upd_same, rgV_rng]
      have s5 : Same H4 (upd H4 t (.tup (rgV 0 (j : Int)))) := Same.new ht
      generalize upd H4 t (.tup (rgV 0 (j : Int))) = H5 at *
      refine ⟨zs, s5 _ _ e4, small1000 (by omega), ?_⟩
      refine ⟨zs ++ [.ref t], fun b o h => by rw [upd_ne (ne_of_none h hD)]; exact s5 _ _ (s4 _ _ h), upd_same, ?_⟩
      rw [lineC_next]
      have tf : TFr H5 (upd H5 D (.lst (zs ++ [.ref t]))) := TFr.lst (s5 _ _ e4)
      exact Paired.app ((m4.keep (TFr.same s5)).keep tf) (Paired.one ⟨t, rfl, tf _ _ et⟩)
    · rintro H2 ⟨ys, s2, eq, mk⟩
      rw [show (n + 1).toNat = n.toNat + 1 by omega] at mk
      refine ⟨D, ys, rfl, .inl ⟨SqL.of eq, fun t ht => ?_⟩⟩
      have s3 : Same H2 (upd H2 t (.tup ys)) := Same.new ht
      have e3 : (upd H2 t (.tup ys)) t = some (.tup ys) := upd_same
      generalize upd H2 t (.tup ys) = H3 at *
      have mk3 := mk.keep (TFr.same s3)
      have ok := fam_line n0 n6
      intro x dx nx ny _
      refine made_fam nx ny e3 mk3 ok fun H4 fa s4 => ⟨rfl, ?_⟩
      exact k x t ys H4 fa (s4 _ _ e3) (mk3.keep (TFr.same s4)) ok ((s2.trans s3).trans s4)
end
end Xci

namespace Xci
open PySem L2 NdefX
def spKeepsB : Bool → Sp
  | true => spKeepsL
  | false => spKeepsT
theorem either_of {sp : Bool → Sp} {b : Bool} {vs : List V} {H : Hp} {Q : VK} {E : XK} (h : sp b vs H Q E) : spEither sp vs H Q E := by
  cases b with
  | true => exact .inl h
  | false => exact .inr h
theorem keepsB_of {b : Bool} {n : Int} {p : Addr} {H : Hp} {u : V} {xs : List V} {ss : List Saying} {c : List Int} {Q : VK} {E : XK} (a : SaysAt b H p xs ss n) (n6 : n ≤ 6) (mu : Xci.Mk H u c) (q : ∀ H', Same H H' → Q (.bl (ss.all (keepsB c))) H') : spEither spKeepsB [u, .ref p] H Q E := by
  have lens : ∀ s ∈ ss, ∀ m ∈ s.parts, m.length ≤ 64 := fun s hs m hm => by
    have o := a.2.2 s hs m hm
    have := asc_len o.up (lo := 0) (n := n) fun x hx => ⟨o.lo x hx, o.hi x hx⟩
    omega
  cases b with
  | true => exact .inl ⟨u, p, xs, c, ss, rfl, mu, a.1, a.2.1, lens, q⟩
  | false => exact .inr ⟨u, p, xs, c, ss, rfl, mu, a.1, a.2.1, lens, q⟩
theorem SaysAt.same {b : Bool} {n : Int} {p : Addr} {H H' : Hp} {xs : List V} {ss : List Saying} (a : SaysAt b H p xs ss n) (s : Same H H') : SaysAt b H' p xs ss n := ⟨s _ _ a.1, says_keep (TFr.same s) a.2.1, a.2.2⟩
def keptC (cs : List (List Int)) (ss : List Saying) : List (List Int) := cs.filter fun c => ss.all (keepsB c)
def spSaid (CF CNs CM : Addr) (b : Bool) : Sp := fun vs H Q E => ∃ (n : Int) (p : Addr) (xs : List V) (ss : List Saying), vs = [.int n, .ref p] ∧ 0 ≤ n ∧ n ≤ 6 ∧ SaysAt b H p xs ss n ∧ ss.length ≤ 20 ∧
  ∀ cs : List (List Int), cs.Pairwise leC → cs.Perm (lots (rng n)) →
  (keptC cs ss = [] → ∀ H', Same H H' → E (.ref CNs) none H') ∧
  (24 < (keptC cs ss).length → ∀ d H', H' d = some (.xd [("most", .int 24)]) → Same H H' → E (.ref CM) (some d) H') ∧
  (keptC cs ss ≠ [] → (keptC cs ss).length ≤ 24 → ∀ (x q : Addr) (ys : List V) (H' : Hp), FamAt CF H' x n q → H' q = some (.tup ys) → Mks H' ys (keptC cs ss) → FamOk n (keptC cs ss) → Same H H' → Q (.ref x) H')
theorem fam_kept {n : Int} {cs : List (List Int)} {ss : List Saying} (n0 : 0 ≤ n) (n6 : n ≤ 6) (p : cs.Perm (lots (rng n))) (ne : keptC cs ss ≠ []) (few : (keptC cs ss).length ≤ 24) : FamOk n (keptC cs ss) :=
  ⟨n0, n6, ne, few, (p.nodup_iff.mpr (lots_nd (rng_ok n).nd)).filter _, fun c hc => (rng_ok n).sub (lots_sub (p.subset (List.mem_filter.mp hc).1))⟩
theorem kept_next {cs : List (List Int)} {ss : List Saying} {c : List Int} {j : Nat} (h : cs[j]? = some c) : keptC (cs.take (j + 1)) ss = keptC (cs.take j) ss ++ (if ss.all (keepsB c) = true then [c] else []) := by
  unfold keptC
  rw [List.take_add_one, h, List.filter_append, Option.toList_some, List.filter_cons, List.filter_nil]
theorem kept_len {cs : List (List Int)} {ss : List Saying} (j : Nat) : (keptC (cs.take j) ss).length ≤ j := by
  have a : (keptC (cs.take j) ss).length ≤ (cs.take j).length := List.length_filter_le ..
  rw [List.length_take] at a
  omega
section
variable {P : Program} {w : World} {K : PySem.W.Frag} {mg : Str → Option Value} {base : Heap}
abbrev sSaid : Stmt := top 24
theorem scSaid : FnScope ["many", "sayings", "cells", "cell"] ["many", "sayings"] (defScope sSaid) := ⟨rfl, rfl, rfl, by decide +kernel, rfl, by decide +kernel, by decide +kernel⟩
theorem ok_said {b : Bool} {f CF CN CNy CNs CM : Addr} {fd : FuncData} (F : Fun K "said" "said" sSaid f fd) (T : Txt mg) (c : FamCst mg) (HB : Has P w K mg base "is_between" ["low", "high", "thing"] 2 spBetween) (HAs : Has P w K mg base "_are_sayings" ["many", "thing"] 5 (spEither spAreSays)) (HA : Has P w K mg base "all_cells" ["many"] 2 spCellsAll) (HKa : Has P w K mg base "_keeps_all" ["cell", "sayings"] 3 (spEither spKeepsB))
    (HN : ErrC P w K mg base "NoNumber" CN ["self"] (spX0 CN)) (HNs : ErrC P w K mg base "NoSayings" CNy ["self"] (spX0 CNy)) (HNc : ErrC P w K mg base "NoCells" CNs ["self"] (spX0 CNs)) (HM : ErrC P w K mg base "TooMany" CM ["self", "most"] (spX1 CM "most"))
    (HFm : HasC P w K mg base "Family" CF ["self", "many", "cells"] 5 (spFam CF)) : FnOk P w K mg base (L2.CX P w) 7 f fd ["many", "sayings"] (spSaid CF CNs CM b) := by
  refine F.okX scSaid (fun vs H Q E h => ?_) (fun cdv A outer s H vs Q E hr h => ?_)
  · obtain ⟨n, p, xs, ss, rfl, _⟩ := h
    rfl
  · obtain ⟨n, p, xs, ss, rfl, n0, n6, sa, few, k⟩ := h
    refine ⟨_, (pss_cons (ps_if (pt_not (pt_val (pe_callH HB (hr.mono (by decide)) rfl (pa_cons pe_int (pa_cons (pe_gint rfl c.MOST_MARKS) (pa_cons (pv 0) pa_nil)))))) (pss_one (ps_raise rfl (takes_of rfl rfl rfl rfl) (pmk_e0 HN (hr.mono (by decide)) rfl))) pss_nil)
      (pss_cons (ps_if (pt_not (pt_val (pe_callH HAs (hr.mono (by decide)) rfl (pa_cons (pv 0) (pa_cons (pv 1) pa_nil))))) (pss_one (ps_raise rfl (takes_of rfl rfl rfl rfl) (pmk_e0 HNs (hr.mono (by decide)) rfl))) pss_nil)
      (pss_cons (ps_set (i := 2) scSaid.nd rfl (by first | exact Or.inl rfl | exact Or.inr rfl) (pe_callTy call_tuple_of rfl T.tuple (by decide +kernel) (pa_cons (pe_lc (own := [("cell", 3)]) rfl scSaid.nd (pi_list (pe_callH HA (hr.mono (by decide)) rfl (pa_cons (pv 0) pa_nil))) (blkOk_by (N := ["many", "sayings", "cells", "cell"]) (sc := defScope sSaid) (by decide +kernel)) (fun _ _ _ _ _ => (pg_name (i := 3) scSaid.nd rfl (by first | exact Or.inl rfl | exact Or.inr rfl))) (fun _ _ _ _ _ => pts_one (pt_val (pe_callH HKa (hr.mono (by decide)) rfl (pa_cons (pv 3) (pa_cons (pv 1) pa_nil))))) (fun _ _ _ _ _ => (pv 3))) pa_nil)))
      (pss_cons (ps_if (pt_not (pt_truth (pv 2) (fun _ => rfl))) (pss_one (ps_raise rfl (takes_of rfl rfl rfl rfl) (pmk_e0 HNc (hr.mono (by decide)) rfl))) pss_nil)
      (pss_cons (ps_if (pt_cmpR op_gt (pe_callB call_len rfl T.len PySem.boot_len (pa_cons (pv 2) pa_nil)) (pe_gint rfl c.MOST_CELLS) (nomark _)) (pss_one (ps_raise rfl (takes_of rfl rfl rfl rfl) (pmk_en HM (hr.mono (by decide)) rfl (pa_cons (pe_gint rfl c.MOST_CELLS) pa_nil)))) pss_nil)
      (pss_one (ps_ret (pe_makeH HFm (hr.mono (by decide)) rfl (pa_cons (pv 0) (pa_cons (pv 2) pa_nil)))))))))), ?_⟩
    refine ⟨_, rfl, _, _, _, rfl, _, rfl, ?_⟩
    rw [decide_eq_true (show (0 : Int) ≤ n ∧ n ≤ 6 from ⟨n0, n6⟩)]
    refine iteF ?_
    refine ⟨_, rfl, _, rfl, either_of (b := b) ⟨n, p, xs, ss, rfl, sa, few, fun H1 s1 => ?_⟩⟩
    refine ⟨_, rfl, iteF ?_⟩
    refine ⟨_, rfl, n, rfl, n0, n6, fun q ys cs H2 eq mk up perm s2 hq => ?_⟩
    obtain ⟨k1, k2, k3⟩ := k cs up perm
    have lcs : ys.length ≤ 64 := by
      rw [Paired.length mk, perm.length_eq, lots_len, rng_len]
      exact (Nat.pow_le_pow_right (by decide) (by omega) : 2 ^ n.toNat ≤ 2 ^ 6)
    refine ⟨q, rfl, ⟨_, SqL.of eq⟩, fun D hD => ?_⟩
    refine lc_list (K := K) (a := q) (xs := ys) (fun j H4 => ∃ zs : List V, Same H2 H4 ∧ H4 D = some (.lst zs) ∧ Mks H4 zs (keptC (cs.take j) ss)) ⟨[], Same.new hD, upd_same, .nil⟩ (fun j H4 _ ⟨_, e, _⟩ => SqL.of (e _ _ eq)) ?_ ?_
    · rintro j y H4 hj ⟨zs, s4, e4, m4⟩
      have lj := (List.getElem?_eq_some_iff.mp hj).1
      obtain ⟨c1, hc, mc⟩ := Paired.get (mk.keep (TFr.same s4)) hj
      have lz : zs.length ≤ 64 := by
        have := kept_len (cs := cs) (ss := ss) j
        rw [Paired.length m4]
        omega
      refine ⟨rfl, _, rfl, _, rfl, keepsB_of (sa.same ((s1.trans s2).trans s4)) n6 mc fun H5 s5 => ⟨_, rfl, ?_⟩⟩
      have m5 := m4.keep (TFr.same s5)
      have mc5 := Tup.keep (TFr.same s5) mc
      refine ite2 (fun yes => ?_) (fun no => ?_)
      · refine ⟨_, rfl, zs, s5 _ _ e4, small1000 (by omega), zs ++ [y], fun b o h => by rw [upd_ne (ne_of_none h hD)]; exact s5 _ _ (s4 _ _ h), upd_same, ?_⟩
        have tf : TFr H5 (upd H5 D (.lst (zs ++ [y]))) := TFr.lst (s5 _ _ e4)
        rw [kept_next hc, if_pos yes]
        exact Paired.app (m5.keep tf) (Paired.one (Tup.keep tf mc5))
      · refine ⟨zs, s4.trans s5, s5 _ _ e4, ?_⟩
        rw [kept_next hc, if_neg no, List.append_nil]
        exact m5
    · rintro H4 ⟨zs, s4, e4, m4⟩
      rw [Paired.length mk, List.take_length] at m4
      refine ⟨D, zs, rfl, .inl ⟨SqL.of e4, fun t ht => ?_⟩⟩
      have s5 : Same H4 (upd H4 t (.tup zs)) := Same.new ht
      have e5 : (upd H4 t (.tup zs)) t = some (.tup zs) := upd_same
      generalize upd H4 t (.tup zs) = H5 at *
      have m5 := m4.keep (TFr.same s5)
      have s05 := ((s1.trans s2).trans s4).trans s5
      have lz : zs.length = (keptC cs ss).length := Paired.length m5
      refine ⟨_, rfl, !zs.isEmpty, .inr (.inl ⟨_, sqT e5, rfl⟩), ?_⟩
      refine ite2 (fun nil => ?_) (fun cons => ?_)
      · have z0 : zs = [] := by cases zs with | nil => rfl | cons a r => cases nil
        refine k1 (List.eq_nil_of_length_eq_zero (by rw [← lz, z0]; rfl)) H5 s05
      have ne : keptC cs ss ≠ [] := fun e => by
        rw [e] at lz
        cases zs with
        | nil => exact cons rfl
        | cons a r => cases lz
      refine ⟨_, rfl, _, zs.length, rfl, .inr ⟨_, sqT e5, rfl⟩, _, _, rfl, rfl, _, rfl, ?_⟩
      refine ite2 (fun big => ?_) (fun small => ?_)
      · have big' : (24 : Int) < ((zs.length : Nat) : Int) := of_decide_eq_true big
        exact x1_read fun d H6 e6 _ s6 => k2 (by omega) d H6 e6 (s05.trans s6)
      have small' : ¬ (24 : Int) < ((zs.length : Nat) : Int) := fun z => small (decide_eq_true z)
      have okf := fam_kept n0 n6 perm ne (by omega)
      refine ⟨_, rfl, _, rfl, ?_⟩
      intro x dx nx ny _
      refine made_fam nx ny e5 m5 okf fun H6 fa s6 => ⟨rfl, ?_⟩
      exact k3 ne (by omega) x t zs H6 fa (s6 _ _ e5) (m5.keep (TFr.same s6)) okf (s05.trans s6)
end
end Xci

namespace Xci
open PySem L2
/-- how many lots of marks a word wants -/
def wordN (z : Str) : Option Nat := if z = "never" then some 1 else if z = "some" then some 1 else if z = "then" then some 2 else none
def wordV (z : Str) : V := match wordN z with
  | some k => .int (k : Int)
  | none => .non
/-- is it a saying over n marks? -/
def sayB (n : Int) : PyData → Bool
  | .tuple (.str z :: ds) => decide (wordN z = some ds.length) && ds.all (cellD n)
  | _ => false
def saysB (n : Int) : PyData → Bool
  | .list ds => decide (ds.length ≤ 20) && ds.all (sayB n)
  | .tuple ds => decide (ds.length ≤ 20) && ds.all (sayB n)
  | _ => false
/-- the written dict answers for every text -/
structure SayCstD (K : PySem.W.Frag) (w : World) (mg : Str → Option Value) (aS : Addr) : Prop where
  at_ : mg "SAYINGS" = some (.ref aS)
  dict : ∃ es n, KDict K w aS es n
  all : ∀ z : Str, ∃ r, PySem.W.nsIn K aS z = some r ∧ L2.RelV (wordV z) (r.getD .none)
theorem sayings_all {K : PySem.W.Frag} {aS : Addr} {h1 h2 h3 : Int} {k1 k2 k3 t1 t2 t3 : Tok} {n : Nat} (e : K.lookup aS = some ⟨.type "dict", none, .dict #[{ hash := h1, key := .str "never" k1, val := .int 1 t1 }, { hash := h2, key := .str "some" k2, val := .int 1 t2 }, { hash := h3, key := .str "then" k3, val := .int 2 t3 }] n, #[]⟩) (z : Str) :
    ∃ r, PySem.W.nsIn K aS z = some r ∧ L2.RelV (wordV z) (r.getD .none) := by
  have ne1 : ("never" : Str) ≠ "some" := by decide
  have ne2 : ("never" : Str) ≠ "then" := by decide
  have ne3 : ("some" : Str) ≠ "then" := by decide
  unfold PySem.W.nsIn
  rw [e]
  dsimp only
  by_cases c1 : z = "never"
  · subst c1
    exact ⟨some (.int 1 t1), by simp [Value.isStr], ⟨t1, rfl⟩⟩
  by_cases c2 : z = "some"
  · subst c2
    exact ⟨some (.int 1 t2), by simp [Value.isStr, ne1], ⟨t2, rfl⟩⟩
  by_cases c3 : z = "then"
  · subst c3
    exact ⟨some (.int 2 t3), by simp [Value.isStr, ne2, ne3], ⟨t3, rfl⟩⟩
  · refine ⟨none, by simp [Value.isStr, Ne.symm c1, Ne.symm c2, Ne.symm c3, DictEntry.refKey], ?_⟩
    unfold wordV wordN
    rw [if_neg c1, if_neg c2, if_neg c3]
    rfl
theorem dt_lstS {a : Out} {H : Hp} {v : V} {ds : List PyData} (h : Dt a H v (.list ds)) : ∃ p xs, v = .ref p ∧ ¬ a p ∧ H p = some (.lst xs) ∧ DtAll a H xs ds := by
  cases h with
  | lst n h r => exact ⟨_, _, rfl, n, h, r⟩
def spIsSayD : Sp := fun vs H Q _ => ∃ (N : Out) (n : Int) (v : V) (d : PyData), vs = [.int n, v] ∧ Dt N H v d ∧ (∀ ds, d = .tuple ds → ds.length ≤ 1000) ∧ ∀ H', Same H H' → Q (.bl (sayB n d)) H'
theorem slice1D {K : PySem.W.Frag} {σ : St} {H : Hp} {p : Addr} {x : V} {ys : List V} {Q : VK} (hp : H p = some (.tup (x :: ys))) (k : ∀ q, H q = none → Q (.ref q) (upd H q (.tup ys))) : tNoPart σ H fun u H3 => rSlA K (.ref p) (some 1) u H3 Q := slice1 hp k
section
variable {P : Program} {w : World} {K : PySem.W.Frag} {mg : Str → Option Value} {base : Heap}
theorem okd_isSaying {f aS : Addr} {fd : FuncData} (F : Fun K "_is_saying" "_is_saying" sIsSaying f fd) (T : Txt mg) (c : SayCstD K w mg aS) (HC : Has P w K mg base "is_cell" ["many", "thing"] 3 spCellD) : FnOk P w K mg base CX0 4 f fd ["many", "thing"] spIsSayD := by
  obtain ⟨es, en, D⟩ := c.dict
  refine F.ok scIsSaying (fun vs H Q E h => ?_) (fun cdv A outer s H vs Q E hr h => ?_)
  · obtain ⟨N, n, v, d, rfl, _⟩ := h
    rfl
  · obtain ⟨N, n, v, d, rfl, hd, wide, k⟩ := h
    refine ⟨_, (pss_cons (ps_if (PW.pt (pw_or (pt_not (pt_val (pe_callB call_isi rfl T.isinstance (by decide +kernel) (pa_cons (pv 1) (pa_cons (pe_bltn rfl T.tuple (by decide +kernel) (v := V.ty "tuple") rfl) pa_nil))))) (pw_or (pt_not (pt_truth (pv 1) (fun _ => rfl))) (pw_or1 (pt_not (pt_val (pe_callB call_isi rfl T.isinstance (by decide +kernel) (pa_cons (pe_ix ix_tup (pv 1) pe_int (fun _ _ => rfl)) (pa_cons (pe_bltn rfl T.str (by decide +kernel) (v := V.ty "str") rfl) pa_nil))))))))) (pss_one (ps_ret pe_bl)) pss_nil)
      (pss_cons (ps_if (pt_cmpR op_ne (pe_getK D (pe_glob (v := .ref aS) rfl c.at_ rfl) (pe_ix ix_tup (pv 1) pe_int (fun _ _ => rfl)) ⟨rfl, rfl, rfl, rfl⟩) (pe_op op_sub (pe_callB call_len rfl T.len PySem.boot_len (pa_cons (pv 1) pa_nil)) pe_int) (nomark _)) (pss_one (ps_ret pe_bl)) pss_nil)
      (pss_cons (ps_for PassesOwn.never rfl (pi_tup (pe_slice sl_tupA (pv 1) (po_some pe_int) po_none)) (pg_name (i := 2) scIsSaying.nd rfl (by first | exact Or.inl rfl | exact Or.inr rfl)) (pss_one (ps_if (pt_not (pt_val (pe_callH HC (hr.mono (by decide)) rfl (pa_cons (pv 0) (pa_cons (pv 2) pa_nil))))) (pss_one (ps_ret pe_bl)) pss_nil)))
      (pss_one (ps_ret pe_bl))))), ?_⟩
    refine ⟨_, rfl, _, _, _, _, _, rfl, .ty _, dt_ty hd, kit_D d (.inr (.inr (.inr (.inr (.inl rfl))))), _, rfl, ?_⟩
    cases h1 : isaD "tuple" d with
    | false =>
      have e : sayB n d = false := by cases d <;> first | rfl | (rw [(isa_tup _).mpr ⟨_, rfl⟩] at h1; cases h1)
      rw [e] at k
      exact iteT (k H (Same.refl H))
    | true =>
      obtain ⟨ds0, rfl⟩ := (isa_tup d).mp h1
      obtain ⟨p, xs, rfl, _, hp, r⟩ := dt_tup hd
      refine ⟨_, rfl, !xs.isEmpty, .inr (.inl ⟨_, sqT hp, rfl⟩), ?_⟩
      cases r with
      | nil => exact iteT (k H (Same.refl H))
      | @cons v0 ys d0 ds h0 r =>
        refine ⟨_, rfl, p, _, _, _, rfl, rfl, sqT hp, at_of (j := 0) rfl rfl, _, _, _, _, _, rfl, .ty _, dt_ty h0, kit_D d0 (.inr (.inr (.inl rfl))), _, rfl, ?_⟩
        cases h2 : isaD "str" d0 with
        | false =>
          have e : sayB n (.tuple (d0 :: ds)) = false := by cases d0 <;> first | rfl | (exfalso; revert h2; decide +kernel) | (simp [isaD, isaT, tyD] at h2)
          rw [e] at k
          exact iteT (k H (Same.refl H))
        | true =>
          obtain ⟨z, rfl⟩ : ∃ z, d0 = .str z := by cases d0 <;> first | exact ⟨_, rfl⟩ | (simp [isaD, isaT, tyD] at h2)
          cases h0
          refine iteF ?_
          obtain ⟨rz, hz, rv⟩ := c.all z
          have len : ys.length = ds.length := r.len
          refine ⟨rfl, _, rfl, p, _, _, _, rfl, rfl, sqT hp, at_of (j := 0) rfl rfl, z, _, wordV z, rfl, hz, rv, ?_⟩
          refine ⟨_, rfl, _, (V.str z :: ys).length, rfl, .inr ⟨_, sqT hp, rfl⟩, _, _, rfl, rfl, ?_⟩
          have flat : scal (wordV z) (V.int (((V.str z :: ys).length : Nat) - 1 : Int)) = true := by unfold wordV; cases wordN z <;> rfl
          refine ⟨flat, _, rfl, ?_⟩
          have e9 : (decide (wordV z = V.int (((V.str z :: ys).length : Nat) - 1 : Int))) = decide (wordN z = some ds.length) := by
            unfold wordV
            cases wordN z with
            | none => simp
            | some j =>
              rw [decide_eq_decide]
              show V.int (j : Int) = V.int _ ↔ _
              rw [List.length_cons, len, show ((ds.length + 1 : Nat) : Int) - 1 = (ds.length : Int) by omega]
              exact ⟨fun h => by injection h with h; rw [show j = ds.length by omega], fun h => by injection h with h; rw [h]⟩
          rw [e9]
          cases h3 : decide (wordN z = some ds.length) with
          | false =>
            have e : sayB n (.tuple (.str z :: ds)) = false := by simp only [sayB, h3, Bool.false_and]
            rw [e] at k
            exact iteT (k H (Same.refl H))
          | true =>
            refine iteF ?_
            refine ⟨_, rfl, _, rfl, ?_⟩
            refine slice1 hp (fun q hq => ?_)
            have s1 : Same H (upd H q (.tup ys)) := Same.new hq
            have e1 : (upd H q (.tup ys)) q = some (.tup ys) := upd_same
            generalize upd H q (.tup ys) = H1 at *
            have r1 := r.fr (FrO.same s1)
            refine ⟨q, rfl, ⟨_, sqT e1⟩, for_tup (K := K) (a := q) (xs := ys) (fun i σ H2 => (H2 = H1 ∧ (ds.take i).all (cellD n) = true) ∧ ∃ o : Option V, σ = [some (.int n), some (.ref p), o]) ⟨⟨rfl, rfl⟩, none, rfl⟩ (fun i σ H2 _ ⟨⟨e, _⟩, _⟩ => by rw [e]; exact sqT e1) ?_ ?_⟩
            · rintro i v σ H2 hi ⟨⟨rfl, al⟩, o, rfl⟩
              obtain ⟨d1, at1, hv⟩ := r1.get hi
              refine ⟨_, rfl, _, rfl, N, n, v, d1, rfl, hv, _, rfl, ?_⟩
              cases h4 : cellD n d1 with
              | false =>
                have e : sayB n (.tuple (.str z :: ds)) = false := by
                  simp only [sayB, h3, Bool.true_and]
                  exact all_at at1 h4
                rw [e] at k
                exact iteT (k _ s1)
              | true =>
                refine iteF ⟨⟨rfl, ?_⟩, _, rfl⟩
                rw [List.take_add_one, at1, List.all_append, al]
                simp [h4]
            · rintro σ H2 ⟨⟨rfl, al⟩, o, rfl⟩
              rw [len, List.take_length] at al
              have e : sayB n (.tuple (.str z :: ds)) = true := by simp only [sayB, h3, al, Bool.and_self]
              rw [e] at k
              exact k _ s1
/-- a list, or anything that is neither list nor tuple; or a tuple -/
def spAreSaysD (b : Bool) : Sp := fun vs H Q _ => ∃ (N : Out) (n : Int) (v : V) (d : PyData), vs = [.int n, v] ∧ Dt N H v d ∧ (∀ es, d = .list es ∨ d = .tuple es → ∀ e ∈ es, ∀ ds, e = .tuple ds → ds.length ≤ 1000) ∧ (if b = true then ∀ ds, d ≠ .tuple ds else ∃ ds, d = .tuple ds) ∧ ∀ H', Same H H' → Q (.bl (saysB n d)) H'
theorem isi_ltN {K : PySem.W.Frag} {d : PyData} (h : ∀ ds, d ≠ .list ds) (h2 : ∀ ds, d ≠ .tuple ds) : PySem.W.kitAny K (.type (tyD d)) [.type "list", .type "tuple"] = some false := by
  have a : isaD "list" d = false := by cases d <;> first | rfl | exact absurd rfl (h _) | (simp [isaD, isaT, tyD])
  have b : isaD "tuple" d = false := by cases d <;> first | rfl | exact absurd rfl (h2 _) | (simp [isaD, isaT, tyD])
  refine kitAny_cons (b := false) (a ▸ kit_D d (.inr (.inr (.inr (.inl rfl))))) (fun _ => kitAny_cons (b := false) (b ▸ kit_D d (.inr (.inr (.inr (.inr (.inl rfl)))))) (fun _ => rfl) (fun h => by cases h)) (fun h => by cases h)
theorem okd_areSaysL {f : Addr} {fd : FuncData} (F : Fun K "_are_sayings" "_are_sayings" sAreSayings f fd) (T : Txt mg) (c : MsCst mg) (HI : Has P w K mg base "_is_saying" ["many", "thing"] 4 spIsSayD) : FnOk P w K mg base CX0 5 f fd ["many", "thing"] (spAreSaysD true) := by
  refine F.ok scAreSayings (fun vs H Q E h => ?_) (fun cdv A outer s H vs Q E hr h => ?_)
  · obtain ⟨N, n, v, d, rfl, _⟩ := h
    rfl
  · obtain ⟨N, n, v, d, rfl, hd, wide, kind, k⟩ := h
    have kind : ∀ ds, d ≠ .tuple ds := kind
    refine ⟨_, (pss_cons (ps_if (PW.pt (pw_or (pt_not (pt_val (pe_callB call_isiT rfl T.isinstance (by decide +kernel) (pa_cons (pv 1) (pa_cons (pe_tup (pa_cons (pe_bltn rfl T.list (by decide +kernel) (v := V.ty "list") rfl) (pa_cons (pe_bltn rfl T.tuple (by decide +kernel) (v := V.ty "tuple") rfl) pa_nil))) pa_nil))))) (pw_or1 (pt_cmpR op_gt (pe_callB call_len rfl T.len PySem.boot_len (pa_cons (pv 1) pa_nil)) (pe_gint rfl c.MOST_SAYINGS) (nomark _))))) (pss_one (ps_ret pe_bl)) pss_nil)
      (pss_cons (ps_for PassesOwn.never rfl (pi_list (pv 1)) (pg_name (i := 2) scAreSayings.nd rfl (by first | exact Or.inl rfl | exact Or.inr rfl)) (pss_one (ps_if (pt_not (pt_val (pe_callH HI (hr.mono (by decide)) rfl (pa_cons (pv 0) (pa_cons (pv 2) pa_nil))))) (pss_one (ps_ret pe_bl)) pss_nil)))
      (pss_one (ps_ret pe_bl)))), ?_⟩
    refine ⟨_, rfl, (by show 2 ≤ sizeLine; decide), fun t ht => ?_⟩
    have et : (upd H t (.tup [.ty "list", .ty "tuple"])) t = some (.tup [.ty "list", .ty "tuple"]) := upd_same
    have s1 : Same H (upd H t (.tup [.ty "list", .ty "tuple"])) := Same.new ht
    generalize upd H t (.tup [.ty "list", .ty "tuple"]) = H1 at *
    have hd1 := hd.fr (FrO.same s1)
    by_cases isl : ∃ ds, d = .list ds
    · obtain ⟨ds, rfl⟩ := isl
      obtain ⟨p, ys, rfl, _, hp1, rl⟩ := dt_lstS hd1
      have len : ys.length = ds.length := rl.len
      refine ⟨_, t, _, _, [.type "list", .type "tuple"], true, rfl, et, .cons (.ty _) (.cons (.ty _) .nil), .base (.lst hp1), isi_lt2, _, rfl, ?_⟩
      refine ⟨_, rfl, _, ys.length, rfl, .inl ⟨_, SqL.of hp1, rfl⟩, _, _, rfl, rfl, _, rfl, ?_⟩
      refine ite2 (fun no => ?_) (fun yes => ?_)
      · have no' := of_decide_eq_true no
        have e : saysB n (.list ds) = false := by
          simp only [saysB]
          rw [decide_eq_false (by omega), Bool.false_and]
        rw [e] at k
        exact k _ s1
      have few : ds.length ≤ 20 := by
        have h : ¬ (20 : Int) < ((ys.length : Nat) : Int) := fun z => yes (decide_eq_true z)
        omega
      refine ⟨_, rfl, p, rfl, ⟨_, SqL.of hp1⟩, for_list (K := K) (a := p) (xs := ys) (fun i σ H2 => (Same H1 H2 ∧ (ds.take i).all (sayB n) = true) ∧ ∃ o : Option V, σ = [some (.int n), some (.ref p), o]) ⟨⟨Same.refl _, rfl⟩, none, rfl⟩ (fun i σ H2 _ ⟨⟨e, _⟩, _⟩ => SqL.of (e _ _ hp1)) ?_ ?_⟩
      · rintro i y σ H2 hi ⟨⟨s2, al⟩, o, rfl⟩
        obtain ⟨d1, at1, hv⟩ := (rl.fr (FrO.same s2)).get hi
        refine ⟨_, rfl, _, rfl, N, n, y, d1, rfl, hv, wide ds (.inl rfl) d1 (List.mem_of_getElem? at1), fun H3 s3 => ⟨_, rfl, ?_⟩⟩
        cases h4 : sayB n d1 with
        | false =>
          have e : saysB n (.list ds) = false := by
            simp only [saysB]
            rw [all_at at1 h4, Bool.and_false]
          rw [e] at k
          exact iteT (k _ ((s1.trans s2).trans s3))
        | true =>
          refine iteF ⟨⟨s2.trans s3, ?_⟩, _, rfl⟩
          rw [List.take_add_one, at1, List.all_append, al]
          simp [h4]
      · rintro σ H2 ⟨⟨s2, al⟩, o, rfl⟩
        rw [len, List.take_length] at al
        have e : saysB n (.list ds) = true := by
          simp only [saysB]
          rw [decide_eq_true few, al]
          rfl
        rw [e] at k
        exact k _ (s1.trans s2)
    · have nol : ∀ ds, d ≠ .list ds := fun ds e => isl ⟨ds, e⟩
      refine ⟨_, t, _, _, [.type "list", .type "tuple"], false, rfl, et, .cons (.ty _) (.cons (.ty _) .nil), dt_ty hd1, isi_ltN nol kind, _, rfl, ?_⟩
      have e : saysB n d = false := by cases d <;> first | rfl | exact absurd rfl (nol _) | exact absurd rfl (kind _)
      rw [e] at k
      exact iteT (k _ s1)
theorem okd_areSaysT {f : Addr} {fd : FuncData} (F : Fun K "_are_sayings" "_are_sayings" sAreSayings f fd) (T : Txt mg) (c : MsCst mg) (HI : Has P w K mg base "_is_saying" ["many", "thing"] 4 spIsSayD) : FnOk P w K mg base CX0 5 f fd ["many", "thing"] (spAreSaysD false) := by
  refine F.ok scAreSayings (fun vs H Q E h => ?_) (fun cdv A outer s H vs Q E hr h => ?_)
  · obtain ⟨N, n, v, d, rfl, _⟩ := h
    rfl
  · obtain ⟨N, n, v, d, rfl, hd, wide, kind, k⟩ := h
    obtain ⟨ds, rfl⟩ : ∃ ds, d = .tuple ds := kind
    refine ⟨_, (pss_cons (ps_if (PW.pt (pw_or (pt_not (pt_val (pe_callB call_isiT rfl T.isinstance (by decide +kernel) (pa_cons (pv 1) (pa_cons (pe_tup (pa_cons (pe_bltn rfl T.list (by decide +kernel) (v := V.ty "list") rfl) (pa_cons (pe_bltn rfl T.tuple (by decide +kernel) (v := V.ty "tuple") rfl) pa_nil))) pa_nil))))) (pw_or1 (pt_cmpR op_gt (pe_callB call_len rfl T.len PySem.boot_len (pa_cons (pv 1) pa_nil)) (pe_gint rfl c.MOST_SAYINGS) (nomark _))))) (pss_one (ps_ret pe_bl)) pss_nil)
      (pss_cons (ps_for PassesOwn.never rfl (pi_tup (pv 1)) (pg_name (i := 2) scAreSayings.nd rfl (by first | exact Or.inl rfl | exact Or.inr rfl)) (pss_one (ps_if (pt_not (pt_val (pe_callH HI (hr.mono (by decide)) rfl (pa_cons (pv 0) (pa_cons (pv 2) pa_nil))))) (pss_one (ps_ret pe_bl)) pss_nil)))
      (pss_one (ps_ret pe_bl)))), ?_⟩
    refine ⟨_, rfl, (by show 2 ≤ sizeLine; decide), fun t ht => ?_⟩
    have et : (upd H t (.tup [.ty "list", .ty "tuple"])) t = some (.tup [.ty "list", .ty "tuple"]) := upd_same
    have s1 : Same H (upd H t (.tup [.ty "list", .ty "tuple"])) := Same.new ht
    generalize upd H t (.tup [.ty "list", .ty "tuple"]) = H1 at *
    have hd1 := hd.fr (FrO.same s1)
    obtain ⟨p, ys, rfl, _, hp1, rl⟩ := dt_tup hd1
    have len : ys.length = ds.length := rl.len
    refine ⟨_, t, _, _, [.type "list", .type "tuple"], true, rfl, et, .cons (.ty _) (.cons (.ty _) .nil), .base (.tup hp1), isi_lt2T, _, rfl, ?_⟩
    refine ⟨_, rfl, _, ys.length, rfl, .inr ⟨_, sqT hp1, rfl⟩, _, _, rfl, rfl, _, rfl, ?_⟩
    refine ite2 (fun no => ?_) (fun yes => ?_)
    · have no' := of_decide_eq_true no
      have e : saysB n (.tuple ds) = false := by
        simp only [saysB]
        rw [decide_eq_false (by omega), Bool.false_and]
      rw [e] at k
      exact k _ s1
    have few : ds.length ≤ 20 := by
      have h : ¬ (20 : Int) < ((ys.length : Nat) : Int) := fun z => yes (decide_eq_true z)
      omega
    refine ⟨_, rfl, p, rfl, ⟨_, sqT hp1⟩, for_tup (K := K) (a := p) (xs := ys) (fun i σ H2 => (Same H1 H2 ∧ (ds.take i).all (sayB n) = true) ∧ ∃ o : Option V, σ = [some (.int n), some (.ref p), o]) ⟨⟨Same.refl _, rfl⟩, none, rfl⟩ (fun i σ H2 _ ⟨⟨e, _⟩, _⟩ => sqT (e _ _ hp1)) ?_ ?_⟩
    · rintro i y σ H2 hi ⟨⟨s2, al⟩, o, rfl⟩
      obtain ⟨d1, at1, hv⟩ := (rl.fr (FrO.same s2)).get hi
      refine ⟨_, rfl, _, rfl, N, n, y, d1, rfl, hv, wide ds (.inr rfl) d1 (List.mem_of_getElem? at1), fun H3 s3 => ⟨_, rfl, ?_⟩⟩
      cases h4 : sayB n d1 with
      | false =>
        have e : saysB n (.tuple ds) = false := by
          simp only [saysB]
          rw [all_at at1 h4, Bool.and_false]
        rw [e] at k
        exact iteT (k _ ((s1.trans s2).trans s3))
      | true =>
        refine iteF ⟨⟨s2.trans s3, ?_⟩, _, rfl⟩
        rw [List.take_add_one, at1, List.all_append, al]
        simp [h4]
    · rintro σ H2 ⟨⟨s2, al⟩, o, rfl⟩
      rw [len, List.take_length] at al
      have e : saysB n (.tuple ds) = true := by
        simp only [saysB]
        rw [decide_eq_true few, al]
        rfl
      rw [e] at k
      exact k _ (s1.trans s2)
end
end Xci

namespace Xci
open PySem L2 NdefX
theorem btw_int {lo hi : Int} {d : PyData} (h : btwD lo hi d = true) : ∃ n, d = .int n ∧ lo ≤ n ∧ n ≤ hi := by
  cases d with
  | int n => exact ⟨n, rfl, of_decide_eq_true h⟩
  | _ => cases h
/-- whole and line: an error, or some family -/
def spAnyFam (CN : Addr) (lim : Int) : Sp := fun vs H Q E => ∃ (N : Out) (v : V) (d : PyData), vs = [v] ∧ Dt N H v d ∧ (btwD 0 lim d = false → ∀ H', Same H H' → E (.ref CN) none H') ∧ (btwD 0 lim d = true → ∀ x H', Same H H' → Q x H')
/-- said: what is no number, or what are no sayings -/
def spSaidBad (CN CNy : Addr) : Sp := fun vs H _ E => ∃ (N : Out) (vm vy : V) (dm dy : PyData), vs = [vm, vy] ∧ Dt N H vm dm ∧ Dt N H vy dy ∧ (∀ es, dy = .list es ∨ dy = .tuple es → ∀ e ∈ es, ∀ ds, e = .tuple ds → ds.length ≤ 1000) ∧
  ((btwD 0 6 dm = false ∧ ∀ H', Same H H' → E (.ref CN) none H') ∨ (∃ n, dm = .int n ∧ 0 ≤ n ∧ n ≤ 6 ∧ saysB n dy = false ∧ ∀ H', Same H H' → E (.ref CNy) none H'))
section
variable {P : Program} {w : World} {K : PySem.W.Frag} {mg : Str → Option Value} {base : Heap}
theorem okd_whole {f CF CN : Addr} {fd : FuncData} (F : Fun K "whole" "whole" sWhole f fd) (T : Txt mg) (c : WhCst mg) (HB : Has P w K mg base "is_between" ["low", "high", "thing"] 2 spBtwD) (HA : Has P w K mg base "all_cells" ["many"] 2 spCellsAll)
    (HN : ErrC P w K mg base "NoNumber" CN ["self"] (spX0 CN)) (HFm : HasC P w K mg base "Family" CF ["self", "many", "cells"] 5 (spFam CF)) : FnOk P w K mg base (L2.CX P w) 7 f fd ["many"] (spAnyFam CN 4) := by
  refine F.okX scWhole (fun vs H Q E h => ?_) (fun cdv A outer s H vs Q E hr h => ?_)
  · obtain ⟨N, v, d, rfl, _⟩ := h
    rfl
  · obtain ⟨N, v, d, rfl, hd, k1, k2⟩ := h
    refine ⟨_, (pss_cons (ps_if (pt_not (pt_val (pe_callH HB (hr.mono (by decide)) rfl (pa_cons pe_int (pa_cons (pe_gint rfl c.OF) (pa_cons (pv 0) pa_nil)))))) (pss_one (ps_raise rfl (takes_of rfl rfl rfl rfl) (pmk_e0 HN (hr.mono (by decide)) rfl))) pss_nil)
      (pss_one (ps_ret (pe_makeH HFm (hr.mono (by decide)) rfl (pa_cons (pv 0) (pa_cons (pe_callTy call_tuple_of rfl T.tuple (by decide +kernel) (pa_cons (pe_callH HA (hr.mono (by decide)) rfl (pa_cons (pv 0) pa_nil)) pa_nil)) pa_nil)))))), ?_⟩
    refine ⟨_, rfl, N, _, _, v, d, rfl, hd, _, rfl, ?_⟩
    cases h1 : btwD 0 4 d with
    | false => exact iteT (k1 h1 H (Same.refl H))
    | true =>
      obtain ⟨n, rfl, n0, n4⟩ := btw_int h1
      cases hd
      refine iteF ?_
      refine ⟨_, rfl, _, rfl, n, rfl, n0, by omega, fun q ys cs H2 eq mk up perm s2 hq => ?_⟩
      refine ⟨q, ys, rfl, .inl ⟨SqL.of eq, fun t ht => ?_⟩⟩
      have s3 : Same H2 (upd H2 t (.tup ys)) := Same.new ht
      have e3 : (upd H2 t (.tup ys)) t = some (.tup ys) := upd_same
      generalize upd H2 t (.tup ys) = H3 at *
      intro x dx nx ny _
      refine made_fam nx ny e3 (mk.keep (TFr.same s3)) (fam_all n0 n4 perm) fun H4 fa s4 => ⟨rfl, ?_⟩
      exact k2 h1 _ H4 ((s2.trans s3).trans s4)
theorem okd_line {f CF CN : Addr} {fd : FuncData} (F : Fun K "line" "line" sLine f fd) (T : Txt mg) (c : WhCst mg) (HB : Has P w K mg base "is_between" ["low", "high", "thing"] 2 spBtwD)
    (HN : ErrC P w K mg base "NoNumber" CN ["self"] (spX0 CN)) (HFm : HasC P w K mg base "Family" CF ["self", "many", "cells"] 5 (spFam CF)) : FnOk P w K mg base (L2.CX P w) 7 f fd ["many"] (spAnyFam CN 6) := by
  refine F.okX scLine (fun vs H Q E h => ?_) (fun cdv A outer s H vs Q E hr h => ?_)
  · obtain ⟨N, v, d, rfl, _⟩ := h
    rfl
  · obtain ⟨N, v, d, rfl, hd, k1, k2⟩ := h
    refine ⟨_, (pss_cons (ps_if (pt_not (pt_val (pe_callH HB (hr.mono (by decide)) rfl (pa_cons pe_int (pa_cons (pe_gint rfl c.MOST_MARKS) (pa_cons (pv 0) pa_nil)))))) (pss_one (ps_raise rfl (takes_of rfl rfl rfl rfl) (pmk_e0 HN (hr.mono (by decide)) rfl))) pss_nil)
      (pss_one (ps_ret (pe_makeH HFm (hr.mono (by decide)) rfl (pa_cons (pv 0) (pa_cons (pe_callTy call_tuple_of rfl T.tuple (by decide +kernel) (pa_cons (pe_lc (own := [("length", 1)]) rfl scLine.nd (pi_range1 rfl T.range (pa_cons (pe_op op_add (pv 0) pe_int) pa_nil)) (blkOk_by (N := ["many", "length"]) (sc := defScope sLine) (by decide +kernel)) (fun _ _ _ _ _ => (pg_name (i := 1) scLine.nd rfl (by first | exact Or.inl rfl | exact Or.inr rfl))) (fun _ _ _ _ _ => pts_nil) (fun _ _ _ _ _ => (pe_tupRg rfl rfl T.tuple (prg_1 rfl T.range (pv 1))))) pa_nil)) pa_nil)))))), ?_⟩
    refine ⟨_, rfl, N, _, _, v, d, rfl, hd, _, rfl, ?_⟩
    cases h1 : btwD 0 6 d with
    | false => exact iteT (k1 h1 H (Same.refl H))
    | true =>
      obtain ⟨n, rfl, n0, n6⟩ := btw_int h1
      cases hd
      refine iteF ?_
      refine ⟨_, rfl, _, rfl, _, _, rfl, rfl, _, rfl, by omega, by omega, fun D hD => ?_⟩
      refine lc_range (n := (n + 1).toNat) (fun j H4 => ∃ zs : List V, Same H H4 ∧ H4 D = some (.lst zs) ∧ Mks H4 zs (lineC j)) ⟨[], Same.new hD, upd_same, .nil⟩ ?_ ?_
      · rintro j H4 hj ⟨zs, s4, e4, m4⟩
        have lz : zs.length = j := by rw [Paired.length m4, lineC_len]
        refine ⟨rfl, _, rfl, _, rfl, RgOk.of_le (by omega) (by omega) (by omega) (by omega), fun t ht => ?_⟩
        have et : (upd H4 t (.tup (rgV 0 ((0 : Int) + (j : Int))))) t = some (.tup ((rng (j : Int)).map V.int)) := by rw [upd_same, Int.zero_add, rgV_rng]
        have s5 : Same H4 (upd H4 t (.tup (rgV 0 ((0 : Int) + (j : Int))))) := Same.new ht
        generalize upd H4 t (.tup (rgV 0 ((0 : Int) + (j : Int)))) = H5 at *
        refine ⟨zs, s5 _ _ e4, small1000 (by omega), ?_⟩
        refine ⟨zs ++ [.ref t], fun b o h => by rw [upd_ne (ne_of_none h hD)]; exact s5 _ _ (s4 _ _ h), upd_same, ?_⟩
        have tf : TFr H5 (upd H5 D (.lst (zs ++ [.ref t]))) := TFr.lst (s5 _ _ e4)
        rw [lineC_next]
        exact Paired.app ((m4.keep (TFr.same s5)).keep tf) (Paired.one ⟨t, rfl, tf _ _ et⟩)
      · rintro H4 ⟨zs, s4, e4, m4⟩
        refine ⟨D, zs, rfl, .inl ⟨SqL.of e4, fun t7 ht7 => ?_⟩⟩
        have s7 : Same H4 (upd H4 t7 (.tup zs)) := Same.new ht7
        have e7 : (upd H4 t7 (.tup zs)) t7 = some (.tup zs) := upd_same
        generalize upd H4 t7 (.tup zs) = H7 at *
        have ei : (n + 1).toNat = n.toNat + 1 := by omega
        rw [ei] at m4
        intro x dx nx ny _
        refine made_fam nx ny e7 (m4.keep (TFr.same s7)) (fam_line n0 n6) fun H9 fa s9 => ⟨rfl, ?_⟩
        exact k2 h1 _ H9 ((s4.trans s7).trans s9)
theorem okd_saidBad {f CN CNy : Addr} {fd : FuncData} (F : Fun K "said" "said" sSaid f fd) (T : Txt mg) (c : FamCst mg) (HB : Has P w K mg base "is_between" ["low", "high", "thing"] 2 spBtwD) (HAs : Has P w K mg base "_are_sayings" ["many", "thing"] 5 (spEither spAreSaysD))
    (HN : ErrC P w K mg base "NoNumber" CN ["self"] (spX0 CN)) (HNs : ErrC P w K mg base "NoSayings" CNy ["self"] (spX0 CNy)) : FnOk P w K mg base (L2.CX P w) 7 f fd ["many", "sayings"] (spSaidBad CN CNy) := by
  refine F.okX scSaid (fun vs H Q E h => ?_) (fun cdv A outer s H vs Q E hr h => ?_)
  · obtain ⟨N, vm, vy, dm, dy, rfl, _⟩ := h
    rfl
  · obtain ⟨N, vm, vy, dm, dy, rfl, hm, hy, wide, k⟩ := h
    refine ⟨_, (pss_cons (ps_if (pt_not (pt_val (pe_callH HB (hr.mono (by decide)) rfl (pa_cons pe_int (pa_cons (pe_gint rfl c.MOST_MARKS) (pa_cons (pv 0) pa_nil)))))) (pss_one (ps_raise rfl (takes_of rfl rfl rfl rfl) (pmk_e0 HN (hr.mono (by decide)) rfl))) pss_nil)
      (pss_cons (ps_if (pt_not (pt_val (pe_callH HAs (hr.mono (by decide)) rfl (pa_cons (pv 0) (pa_cons (pv 1) pa_nil))))) (pss_one (ps_raise rfl (takes_of rfl rfl rfl rfl) (pmk_e0 HNs (hr.mono (by decide)) rfl))) pss_nil)
      pss_never)), ?_⟩
    refine ⟨_, rfl, N, _, _, vm, dm, rfl, hm, _, rfl, ?_⟩
    rcases k with ⟨bad, k⟩ | ⟨n, rfl, n0, n6, bad, k⟩
    · rw [bad]
      exact iteT (k H (Same.refl H))
    · cases hm
      have e : btwD 0 6 (.int n) = true := decide_eq_true ⟨n0, n6⟩
      rw [e]
      refine iteF ?_
      refine ⟨_, rfl, _, rfl, ?_⟩
      by_cases ist : ∃ ds, dy = .tuple ds
      · obtain ⟨ds, rfl⟩ := ist
        refine .inr ⟨N, n, vy, _, rfl, hy, wide, ⟨ds, rfl⟩, fun H1 s1 => ?_⟩
        rw [bad]
        exact ⟨_, rfl, iteT (k H1 s1)⟩
      · refine .inl ⟨N, n, vy, dy, rfl, hy, wide, (show ∀ ds, dy ≠ .tuple ds from fun ds e => ist ⟨ds, e⟩), fun H1 s1 => ?_⟩
        rw [bad]
        exact ⟨_, rfl, iteT (k H1 s1)⟩
end
end Xci

namespace Xci
open PySem L2 NdefX
/-- which of four classes is which -/
structure Kit4 (K : PySem.W.Frag) (CN CNy CNs CM : Addr) : Prop where
  k00 : PySem.W.kitOne K (.ref CN) (.ref CN) = some true
  k01 : PySem.W.kitOne K (.ref CN) (.ref CNy) = some false
  k02 : PySem.W.kitOne K (.ref CN) (.ref CNs) = some false
  k03 : PySem.W.kitOne K (.ref CN) (.ref CM) = some false
  k10 : PySem.W.kitOne K (.ref CNy) (.ref CN) = some false
  k11 : PySem.W.kitOne K (.ref CNy) (.ref CNy) = some true
  k12 : PySem.W.kitOne K (.ref CNy) (.ref CNs) = some false
  k13 : PySem.W.kitOne K (.ref CNy) (.ref CM) = some false
  k20 : PySem.W.kitOne K (.ref CNs) (.ref CN) = some false
  k21 : PySem.W.kitOne K (.ref CNs) (.ref CNy) = some false
  k22 : PySem.W.kitOne K (.ref CNs) (.ref CNs) = some true
  k23 : PySem.W.kitOne K (.ref CNs) (.ref CM) = some false
  k30 : PySem.W.kitOne K (.ref CM) (.ref CN) = some false
  k31 : PySem.W.kitOne K (.ref CM) (.ref CNy) = some false
  k32 : PySem.W.kitOne K (.ref CM) (.ref CNs) = some false
  k33 : PySem.W.kitOne K (.ref CM) (.ref CM) = some true
def keptWord (l : List (List Int)) : Str := if l = [] then "cells" else if 24 < l.length then "many" else "let"
def spTold : Sp := fun vs H Q _ => ∃ (N : Out) (wch : Int) (vm vy : V) (dm dy : PyData), vs = [.int wch, vm, vy] ∧ Dt N H vm dm ∧ Dt N H vy dy ∧ (∀ es, dy = .list es ∨ dy = .tuple es → ∀ e ∈ es, ∀ ds, e = .tuple ds → ds.length ≤ 1000) ∧
  ((wch = 0 ∧ ∀ H', Same H H' → Q (.str (if btwD 0 4 dm = true then "let" else "number")) H') ∨
   (wch = 1 ∧ ∀ H', Same H H' → Q (.str (if btwD 0 6 dm = true then "let" else "number")) H') ∨
   (wch = 2 ∧ btwD 0 6 dm = false ∧ ∀ H', Same H H' → Q (.str "number") H') ∨
   (wch = 2 ∧ ∃ n, dm = .int n ∧ 0 ≤ n ∧ n ≤ 6 ∧ saysB n dy = false ∧ ∀ H', Same H H' → Q (.str "sayings") H') ∨
   (wch = 2 ∧ ∃ (n : Int) (p : Addr) (xs : List V) (ss : List Saying), dm = .int n ∧ vy = .ref p ∧ 0 ≤ n ∧ n ≤ 6 ∧ SaysAt true H p xs ss n ∧ ss.length ≤ 20 ∧ ∀ cs H', cs.Pairwise leC → cs.Perm (lots (rng n)) → Same H H' → Q (.str (keptWord (keptC cs ss))) H'))
section
variable {P : Program} {w : World} {K : PySem.W.Frag} {mg : Str → Option Value} {base : Heap}
abbrev sLawTold : Stmt := top 36
theorem scLawTold : FnScope ["which", "many", "sayings", "told", "e", "flags"] ["which", "many", "sayings"] (defScope sLawTold) := ⟨rfl, rfl, rfl, by decide +kernel, rfl, by decide +kernel, by decide +kernel⟩
set_option maxHeartbeats 4000000 in
theorem ok_told {f CF CN CNy CNs CM CB : Addr} {fd : FuncData} (F : Fun K "_law_told" "_law_told" sLawTold f fd) (T : Txt mg) (cB : Catch K mg "FormError" CB) (sN : PySem.W.subIn K (.ref CN) (.ref CB) = some true) (sNy : PySem.W.subIn K (.ref CNy) (.ref CB) = some true) (sNs : PySem.W.subIn K (.ref CNs) (.ref CB) = some true) (sM : PySem.W.subIn K (.ref CM) (.ref CB) = some true)
    (eN : ExcC K CN) (eNy : ExcC K CNy) (eNs : ExcC K CNs) (eM : ExcC K CM) (mN : mg "NoNumber" = some (.ref CN)) (mNy : mg "NoSayings" = some (.ref CNy)) (mNs : mg "NoCells" = some (.ref CNs)) (mM : mg "TooMany" = some (.ref CM)) (kk : Kit4 K CN CNy CNs CM) (XF : XfC K CM) (noM : PySem.W.findIn K (.ref CM) "most" = some none)
    (HW : HasR P w K mg base "whole" ["many"] 7 (spAnyFam CN 4)) (HL : HasR P w K mg base "line" ["many"] 7 (spAnyFam CN 6)) (HS : HasR P w K mg base "said" ["many", "sayings"] 7 (fun vs H Q E => spSaidBad CN CNy vs H Q E ∨ spSaid CF CNs CM true vs H Q E)) : FnOk P w K mg base CX0 8 f fd ["which", "many", "sayings"] spTold := by
  refine F.ok scLawTold (fun vs H Q E h => ?_) (fun cdv A outer s H vs Q E hr h => ?_)
  · obtain ⟨N, wch, vm, vy, dm, dy, rfl, _⟩ := h
    rfl
  · obtain ⟨N, wch, vm, vy, dm, dy, rfl, hm, hy, wide, k⟩ := h
    refine ⟨_, (pss_cons (ps_set (i := 3) scLawTold.nd rfl (by first | exact Or.inl rfl | exact Or.inr rfl) pe_str)
      (pss_cons (ps_try_as (i := 4) rfl rfl scLawTold.nd rfl rfl ⟨rfl, by decide, .inl cB.at_⟩ takes0 (fun W pn xe tk _ => (pss_one (ps_if (pt_cmpR op_eq (pv 0) pe_int (nomark _)) (pss_one (ps_expr (pe_callX HW (hr.mono (by decide)) rfl tk (pa_cons (pv 1) pa_nil)))) (pss_one (ps_if (pt_cmpR op_eq (pv 0) pe_int (nomark _)) (pss_one (ps_expr (pe_callX HL (hr.mono (by decide)) rfl tk (pa_cons (pv 1) pa_nil)))) (pss_one (ps_expr (pe_callX HS (hr.mono (by decide)) rfl tk (pa_cons (pv 1) (pa_cons (pv 2) pa_nil)))))))))) (fun a oe cls d pn hz hf => (pss_cons (ps_set (i := 5) scLawTold.nd rfl (by first | exact Or.inl rfl | exact Or.inr rfl) (pe_lst (pa_cons (pe_callB (show CallR _ _ (rIsExD K cls d a) from call_isExD hz hf) rfl T.isinstance (by decide +kernel) (pa_cons (pv 4) (pa_cons (pe_glob (v := .ref CN) rfl mN rfl) pa_nil))) (pa_cons (pe_callB (show CallR _ _ (rIsExD K cls d a) from call_isExD hz hf) rfl T.isinstance (by decide +kernel) (pa_cons (pv 4) (pa_cons (pe_glob (v := .ref CNy) rfl mNy rfl) pa_nil))) (pa_cons (pe_callB (show CallR _ _ (rIsExD K cls d a) from call_isExD hz hf) rfl T.isinstance (by decide +kernel) (pa_cons (pv 4) (pa_cons (pe_glob (v := .ref CNs) rfl mNs rfl) pa_nil))) (pa_cons (pe_callB (show CallR _ _ (rIsExD K cls d a) from call_isExD hz hf) rfl T.isinstance (by decide +kernel) (pa_cons (pv 4) (pa_cons (pe_glob (v := .ref CM) rfl mM rfl) pa_nil))) pa_nil))))))
      (pss_cons (ps_set (i := 3) scLawTold.nd rfl (by first | exact Or.inl rfl | exact Or.inr rfl) pe_str)
      (pss_cons (ps_if (pt_cmpR op_eq (show PE _ _ (tBM K "list" _ _ _) from (pe_bm PySem.F.plainAttrs_list PySem.F.slot_list_count PySem.F.type_list_count (show MtR _ "list.count" (rCntF K) from mt_countF) (pv 5) (pa_cons pe_bl pa_nil))) pe_int (nomark _)) (pss_one (ps_set (i := 3) scLawTold.nd rfl (by first | exact Or.inl rfl | exact Or.inr rfl) (pe_ix (show IxR _ (rIxL K) from ix_list) (pe_lst (pa_cons pe_str (pa_cons pe_str (pa_cons pe_str (pa_cons pe_str pa_nil))))) (show PE _ _ (tBM K "list" _ _ _) from (pe_bm PySem.F.plainAttrs_list PySem.F.slot_list_index PySem.F.type_list_index (show MtR _ "list.index" (rIndex K) from mt_index) (pv 5) (pa_cons pe_bl pa_nil))) (fun _ _ => rfl)))) pss_nil)
      (pss_one (ps_if (PW.pt (pw_and (pt_cmpR op_eq (pv 3) pe_str (nomark _)) (pw_and1 (pt_cmpR op_ne (pe_xf XF noM hz hf (pv 4)) pe_int (nomark _))))) (pss_one (ps_set (i := 3) scLawTold.nd rfl (by first | exact Or.inl rfl | exact Or.inr rfl) pe_str)) pss_nil)))))))
      (pss_one (ps_ret (pv 3))))), ?_⟩
    refine ⟨_, rfl, rfl, _, rfl, ?_⟩
    rcases k with ⟨rfl, k⟩ | ⟨rfl, k⟩ | ⟨rfl, bad, k⟩ | ⟨rfl, n, rfl, n0, n6, bad, k⟩ | ⟨rfl, n, p, xs, ss, rfl, rfl, n0, n6, sa, few, k⟩
    · refine iteT ?_
      refine ⟨_, rfl, N, vm, dm, rfl, hm, fun h1 H2 s2 => ?_, fun h1 x H2 s2 => ?_⟩
      · rw [h1] at k
        refine ⟨true, cB.one sN, (fun _ a ha => ?_), fun q => nomatch q⟩
        refine ⟨_, rfl, CN, eN, rfl, (fun dd z => nomatch z), _, _, _, rfl, (fun u r => r), kk.k00, _, rfl, CN, eN, rfl, (fun dd z => nomatch z), _, _, _, rfl, (fun u r => r), kk.k01, _, rfl, CN, eN, rfl, (fun dd z => nomatch z), _, _, _, rfl, (fun u r => r), kk.k02, _, rfl, CN, eN, rfl, (fun dd z => nomatch z), _, _, _, rfl, (fun u r => r), kk.k03, (by show 4 ≤ sizeLine; decide), fun q hq => ?_⟩
        have s3 : Same H2 (upd H2 q (.lst [.bl true, .bl false, .bl false, .bl false])) := Same.new hq
        have e3 : (upd H2 q (.lst [.bl true, .bl false, .bl false, .bl false])) q = some (.lst [.bl true, .bl false, .bl false, .bl false]) := upd_same
        generalize upd H2 q (.lst [.bl true, .bl false, .bl false, .bl false]) = H3 at *
        refine ⟨_, rfl, .inl ⟨rfl, _, SqL.of e3⟩, q, _, _, rfl, rfl, SqL.of e3, rfl, rfl, rfl, _, rfl, ?_⟩
        refine iteT ?_
        refine ⟨(by show 4 ≤ sizeLine; decide), fun q2 hq2 => ?_⟩
        have s4 : Same H3 (upd H3 q2 (.lst [.str "number", .str "sayings", .str "cells", .str "many"])) := Same.new hq2
        have e4 : (upd H3 q2 (.lst [.str "number", .str "sayings", .str "cells", .str "many"])) q2 = some (.lst [.str "number", .str "sayings", .str "cells", .str "many"]) := upd_same
        generalize upd H3 q2 (.lst [.str "number", .str "sayings", .str "cells", .str "many"]) = H4 at *
        refine ⟨_, rfl, .inl ⟨rfl, _, SqL.of (s4 _ _ e3)⟩, q, _, _, 0, _, rfl, rfl, SqL.of (s4 _ _ e3), rfl, rfl, rfl, rfl, (fun m z h _ => absurd h (Nat.not_lt_zero m)), ?_⟩
        refine ⟨q2, _, _, _, rfl, rfl, SqL.of e4, at_of (j := 0) rfl rfl, ?_⟩
        refine ⟨_, rfl, rfl, _, rfl, ?_⟩
        refine iteF ?_
        refine iteF ?_
        exact ⟨_, rfl, k H4 ((s2.trans s3).trans s4)⟩
      · rw [h1] at k
        exact ⟨_, rfl, k H2 s2⟩
    · refine iteF ?_
      refine ⟨_, rfl, rfl, _, rfl, ?_⟩
      refine iteT ?_
      refine ⟨_, rfl, N, vm, dm, rfl, hm, fun h1 H2 s2 => ?_, fun h1 x H2 s2 => ?_⟩
      · rw [h1] at k
        refine ⟨true, cB.one sN, (fun _ a ha => ?_), fun q => nomatch q⟩
        refine ⟨_, rfl, CN, eN, rfl, (fun dd z => nomatch z), _, _, _, rfl, (fun u r => r), kk.k00, _, rfl, CN, eN, rfl, (fun dd z => nomatch z), _, _, _, rfl, (fun u r => r), kk.k01, _, rfl, CN, eN, rfl, (fun dd z => nomatch z), _, _, _, rfl, (fun u r => r), kk.k02, _, rfl, CN, eN, rfl, (fun dd z => nomatch z), _, _, _, rfl, (fun u r => r), kk.k03, (by show 4 ≤ sizeLine; decide), fun q hq => ?_⟩
        have s3 : Same H2 (upd H2 q (.lst [.bl true, .bl false, .bl false, .bl false])) := Same.new hq
        have e3 : (upd H2 q (.lst [.bl true, .bl false, .bl false, .bl false])) q = some (.lst [.bl true, .bl false, .bl false, .bl false]) := upd_same
        generalize upd H2 q (.lst [.bl true, .bl false, .bl false, .bl false]) = H3 at *
        refine ⟨_, rfl, .inl ⟨rfl, _, SqL.of e3⟩, q, _, _, rfl, rfl, SqL.of e3, rfl, rfl, rfl, _, rfl, ?_⟩
        refine iteT ?_
        refine ⟨(by show 4 ≤ sizeLine; decide), fun q2 hq2 => ?_⟩
        have s4 : Same H3 (upd H3 q2 (.lst [.str "number", .str "sayings", .str "cells", .str "many"])) := Same.new hq2
        have e4 : (upd H3 q2 (.lst [.str "number", .str "sayings", .str "cells", .str "many"])) q2 = some (.lst [.str "number", .str "sayings", .str "cells", .str "many"]) := upd_same
        generalize upd H3 q2 (.lst [.str "number", .str "sayings", .str "cells", .str "many"]) = H4 at *
        refine ⟨_, rfl, .inl ⟨rfl, _, SqL.of (s4 _ _ e3)⟩, q, _, _, 0, _, rfl, rfl, SqL.of (s4 _ _ e3), rfl, rfl, rfl, rfl, (fun m z h _ => absurd h (Nat.not_lt_zero m)), ?_⟩
        refine ⟨q2, _, _, _, rfl, rfl, SqL.of e4, at_of (j := 0) rfl rfl, ?_⟩
        refine ⟨_, rfl, rfl, _, rfl, ?_⟩
        refine iteF ?_
        refine iteF ?_
        exact ⟨_, rfl, k H4 ((s2.trans s3).trans s4)⟩
      · rw [h1] at k
        exact ⟨_, rfl, k H2 s2⟩
    · refine iteF ?_
      refine ⟨_, rfl, rfl, _, rfl, ?_⟩
      refine iteF ?_
      refine ⟨_, rfl, _, rfl, .inl ⟨N, vm, vy, dm, dy, rfl, hm, hy, wide, .inl ⟨bad, fun H2 s2 => ?_⟩⟩⟩
      refine ⟨true, cB.one sN, (fun _ a ha => ?_), fun q => nomatch q⟩
      refine ⟨_, rfl, CN, eN, rfl, (fun dd z => nomatch z), _, _, _, rfl, (fun u r => r), kk.k00, _, rfl, CN, eN, rfl, (fun dd z => nomatch z), _, _, _, rfl, (fun u r => r), kk.k01, _, rfl, CN, eN, rfl, (fun dd z => nomatch z), _, _, _, rfl, (fun u r => r), kk.k02, _, rfl, CN, eN, rfl, (fun dd z => nomatch z), _, _, _, rfl, (fun u r => r), kk.k03, (by show 4 ≤ sizeLine; decide), fun q hq => ?_⟩
      have s3 : Same H2 (upd H2 q (.lst [.bl true, .bl false, .bl false, .bl false])) := Same.new hq
      have e3 : (upd H2 q (.lst [.bl true, .bl false, .bl false, .bl false])) q = some (.lst [.bl true, .bl false, .bl false, .bl false]) := upd_same
      generalize upd H2 q (.lst [.bl true, .bl false, .bl false, .bl false]) = H3 at *
      refine ⟨_, rfl, .inl ⟨rfl, _, SqL.of e3⟩, q, _, _, rfl, rfl, SqL.of e3, rfl, rfl, rfl, _, rfl, ?_⟩
      refine iteT ?_
      refine ⟨(by show 4 ≤ sizeLine; decide), fun q2 hq2 => ?_⟩
      have s4 : Same H3 (upd H3 q2 (.lst [.str "number", .str "sayings", .str "cells", .str "many"])) := Same.new hq2
      have e4 : (upd H3 q2 (.lst [.str "number", .str "sayings", .str "cells", .str "many"])) q2 = some (.lst [.str "number", .str "sayings", .str "cells", .str "many"]) := upd_same
      generalize upd H3 q2 (.lst [.str "number", .str "sayings", .str "cells", .str "many"]) = H4 at *
      refine ⟨_, rfl, .inl ⟨rfl, _, SqL.of (s4 _ _ e3)⟩, q, _, _, 0, _, rfl, rfl, SqL.of (s4 _ _ e3), rfl, rfl, rfl, rfl, (fun m z h _ => absurd h (Nat.not_lt_zero m)), ?_⟩
      refine ⟨q2, _, _, _, rfl, rfl, SqL.of e4, at_of (j := 0) rfl rfl, ?_⟩
      refine ⟨_, rfl, rfl, _, rfl, ?_⟩
      refine iteF ?_
      refine iteF ?_
      exact ⟨_, rfl, k H4 ((s2.trans s3).trans s4)⟩
    · refine iteF ?_
      refine ⟨_, rfl, rfl, _, rfl, ?_⟩
      refine iteF ?_
      refine ⟨_, rfl, _, rfl, .inl ⟨N, vm, vy, _, dy, rfl, hm, hy, wide, .inr ⟨n, rfl, n0, n6, bad, fun H2 s2 => ?_⟩⟩⟩
      refine ⟨true, cB.one sNy, (fun _ a ha => ?_), fun q => nomatch q⟩
      refine ⟨_, rfl, CNy, eNy, rfl, (fun dd z => nomatch z), _, _, _, rfl, (fun u r => r), kk.k10, _, rfl, CNy, eNy, rfl, (fun dd z => nomatch z), _, _, _, rfl, (fun u r => r), kk.k11, _, rfl, CNy, eNy, rfl, (fun dd z => nomatch z), _, _, _, rfl, (fun u r => r), kk.k12, _, rfl, CNy, eNy, rfl, (fun dd z => nomatch z), _, _, _, rfl, (fun u r => r), kk.k13, (by show 4 ≤ sizeLine; decide), fun q hq => ?_⟩
      have s3 : Same H2 (upd H2 q (.lst [.bl false, .bl true, .bl false, .bl false])) := Same.new hq
      have e3 : (upd H2 q (.lst [.bl false, .bl true, .bl false, .bl false])) q = some (.lst [.bl false, .bl true, .bl false, .bl false]) := upd_same
      generalize upd H2 q (.lst [.bl false, .bl true, .bl false, .bl false]) = H3 at *
      refine ⟨_, rfl, .inl ⟨rfl, _, SqL.of e3⟩, q, _, _, rfl, rfl, SqL.of e3, rfl, rfl, rfl, _, rfl, ?_⟩
      refine iteT ?_
      refine ⟨(by show 4 ≤ sizeLine; decide), fun q2 hq2 => ?_⟩
      have s4 : Same H3 (upd H3 q2 (.lst [.str "number", .str "sayings", .str "cells", .str "many"])) := Same.new hq2
      have e4 : (upd H3 q2 (.lst [.str "number", .str "sayings", .str "cells", .str "many"])) q2 = some (.lst [.str "number", .str "sayings", .str "cells", .str "many"]) := upd_same
      generalize upd H3 q2 (.lst [.str "number", .str "sayings", .str "cells", .str "many"]) = H4 at *
      refine ⟨_, rfl, .inl ⟨rfl, _, SqL.of (s4 _ _ e3)⟩, q, _, _, 1, _, rfl, rfl, SqL.of (s4 _ _ e3), rfl, rfl, rfl, rfl, (fun m z h e => by
          obtain rfl : m = 0 := by omega
          cases e
          rfl), ?_⟩
      refine ⟨q2, _, _, _, rfl, rfl, SqL.of e4, at_of (j := 1) rfl rfl, ?_⟩
      refine ⟨_, rfl, rfl, _, rfl, ?_⟩
      refine iteF ?_
      refine iteF ?_
      exact ⟨_, rfl, k H4 ((s2.trans s3).trans s4)⟩
    · refine iteF ?_
      refine ⟨_, rfl, rfl, _, rfl, ?_⟩
      refine iteF ?_
      cases hm
      refine ⟨_, rfl, _, rfl, .inr ⟨n, p, xs, ss, rfl, n0, n6, sa, few, fun cs up perm => ?_⟩⟩
      refine ⟨fun nil H2 s2 => ?_, fun big d H2 hd s2 => ?_, fun ne small x q ys H2 fa hq mk okf s2 => ?_⟩
      · have kw : keptWord (keptC cs ss) = "cells" := if_pos nil
        refine ⟨true, cB.one sNs, (fun _ a ha => ?_), fun q => nomatch q⟩
        refine ⟨_, rfl, CNs, eNs, rfl, (fun dd z => nomatch z), _, _, _, rfl, (fun u r => r), kk.k20, _, rfl, CNs, eNs, rfl, (fun dd z => nomatch z), _, _, _, rfl, (fun u r => r), kk.k21, _, rfl, CNs, eNs, rfl, (fun dd z => nomatch z), _, _, _, rfl, (fun u r => r), kk.k22, _, rfl, CNs, eNs, rfl, (fun dd z => nomatch z), _, _, _, rfl, (fun u r => r), kk.k23, (by show 4 ≤ sizeLine; decide), fun q hq => ?_⟩
        have s3 : Same H2 (upd H2 q (.lst [.bl false, .bl false, .bl true, .bl false])) := Same.new hq
        have e3 : (upd H2 q (.lst [.bl false, .bl false, .bl true, .bl false])) q = some (.lst [.bl false, .bl false, .bl true, .bl false]) := upd_same
        generalize upd H2 q (.lst [.bl false, .bl false, .bl true, .bl false]) = H3 at *
        refine ⟨_, rfl, .inl ⟨rfl, _, SqL.of e3⟩, q, _, _, rfl, rfl, SqL.of e3, rfl, rfl, rfl, _, rfl, ?_⟩
        refine iteT ?_
        refine ⟨(by show 4 ≤ sizeLine; decide), fun q2 hq2 => ?_⟩
        have s4 : Same H3 (upd H3 q2 (.lst [.str "number", .str "sayings", .str "cells", .str "many"])) := Same.new hq2
        have e4 : (upd H3 q2 (.lst [.str "number", .str "sayings", .str "cells", .str "many"])) q2 = some (.lst [.str "number", .str "sayings", .str "cells", .str "many"]) := upd_same
        generalize upd H3 q2 (.lst [.str "number", .str "sayings", .str "cells", .str "many"]) = H4 at *
        refine ⟨_, rfl, .inl ⟨rfl, _, SqL.of (s4 _ _ e3)⟩, q, _, _, 2, _, rfl, rfl, SqL.of (s4 _ _ e3), rfl, rfl, rfl, rfl, (fun m z h e => by
            have : m = 0 ∨ m = 1 := by omega
            rcases this with rfl | rfl <;> (cases e; rfl)), ?_⟩
        refine ⟨q2, _, _, _, rfl, rfl, SqL.of e4, at_of (j := 2) rfl rfl, ?_⟩
        refine ⟨_, rfl, rfl, _, rfl, ?_⟩
        refine iteF ?_
        refine iteF ?_
        exact ⟨_, rfl, kw ▸ k cs H4 up perm ((s2.trans s3).trans s4)⟩
      · have kw : keptWord (keptC cs ss) = "many" := by
          unfold keptWord
          rw [if_neg (fun e => by rw [e] at big; exact absurd big (Nat.not_lt_zero _)), if_pos big]
        refine ⟨true, cB.one sM, (fun _ a ha => ?_), fun q => nomatch q⟩
        refine ⟨_, rfl, CM, eM, rfl, (fun dd z => by cases z; exact ⟨_, hd⟩), _, _, _, rfl, (fun u r => r), kk.k30, _, rfl, CM, eM, rfl, (fun dd z => by cases z; exact ⟨_, hd⟩), _, _, _, rfl, (fun u r => r), kk.k31, _, rfl, CM, eM, rfl, (fun dd z => by cases z; exact ⟨_, hd⟩), _, _, _, rfl, (fun u r => r), kk.k32, _, rfl, CM, eM, rfl, (fun dd z => by cases z; exact ⟨_, hd⟩), _, _, _, rfl, (fun u r => r), kk.k33, (by show 4 ≤ sizeLine; decide), fun q hq => ?_⟩
        have s3 : Same H2 (upd H2 q (.lst [.bl false, .bl false, .bl false, .bl true])) := Same.new hq
        have e3 : (upd H2 q (.lst [.bl false, .bl false, .bl false, .bl true])) q = some (.lst [.bl false, .bl false, .bl false, .bl true]) := upd_same
        generalize upd H2 q (.lst [.bl false, .bl false, .bl false, .bl true]) = H3 at *
        refine ⟨_, rfl, .inl ⟨rfl, _, SqL.of e3⟩, q, _, _, rfl, rfl, SqL.of e3, rfl, rfl, rfl, _, rfl, ?_⟩
        refine iteT ?_
        refine ⟨(by show 4 ≤ sizeLine; decide), fun q2 hq2 => ?_⟩
        have s4 : Same H3 (upd H3 q2 (.lst [.str "number", .str "sayings", .str "cells", .str "many"])) := Same.new hq2
        have e4 : (upd H3 q2 (.lst [.str "number", .str "sayings", .str "cells", .str "many"])) q2 = some (.lst [.str "number", .str "sayings", .str "cells", .str "many"]) := upd_same
        generalize upd H3 q2 (.lst [.str "number", .str "sayings", .str "cells", .str "many"]) = H4 at *
        refine ⟨_, rfl, .inl ⟨rfl, _, SqL.of (s4 _ _ e3)⟩, q, _, _, 3, _, rfl, rfl, SqL.of (s4 _ _ e3), rfl, rfl, rfl, rfl, (fun m z h e => by
            have : m = 0 ∨ m = 1 ∨ m = 2 := by omega
            rcases this with rfl | rfl | rfl <;> (cases e; rfl)), ?_⟩
        refine ⟨q2, _, _, _, rfl, rfl, SqL.of e4, at_of (j := 3) rfl rfl, ?_⟩
        refine ⟨_, rfl, rfl, _, rfl, ?_⟩
        refine iteT ?_
        refine ⟨_, rfl, rfl, rfl, d, _, .int 24, rfl, s4 _ _ (s3 _ _ hd), rfl, rfl, _, rfl, ?_⟩
        refine iteF ?_
        exact ⟨_, rfl, kw ▸ k cs H4 up perm ((s2.trans s3).trans s4)⟩
      · have kw : keptWord (keptC cs ss) = "let" := by
          unfold keptWord
          rw [if_neg ne, if_neg (by omega)]
        exact ⟨_, rfl, kw ▸ k cs H2 up perm s2⟩
end
end Xci

namespace Xci
open PySem L2
def bad1 (n : Int) : List PyData := [.tuple [.str "never"], .tuple [.str "never", .tuple [.int 0], .tuple [.int 0]], .tuple [.str "then", .tuple [.int 0]], .tuple [.str "some", .list [.int 0]], .tuple [.str "never", .tuple [.int n]], .tuple [.str "some", .tuple [.int 1, .int 0]]]
def bad2 : List PyData := [.tuple [.str "often", .tuple [.int 0]], .tuple [.int 0, .tuple [.int 0]], .list [.str "never", .tuple [.int 0]], .tuple [.str "never", .int 0], .tuple [.str "never", .tuple [.bool true]], .tuple [.str "then", .tuple [], .tuple [], .tuple []]]
def bad3 : List PyData := [.tuple [.str "some", .tuple [.int 0, .int 0]], .tuple [.str "never", .str "0"], .tuple [.str "then", .tuple [], .none], .tuple [], .none, .str "never", .tuple [.str "", .tuple []], .tuple [.tuple [.str "never", .tuple []]]]
def bad4 : List PyData := [.tuple [.str "some", .tuple [.int (-1)]], .tuple [.str "never", .tuple [.none]]]
theorem bad1_fine {n : Int} (h : 0 ≤ n ∧ n ≤ 6) : ∀ d ∈ bad1 n, Fine 120 40 d := by
  have : n = 0 ∨ n = 1 ∨ n = 2 ∨ n = 3 ∨ n = 4 ∨ n = 5 ∨ n = 6 := by omega
  rcases this with rfl | rfl | rfl | rfl | rfl | rfl | rfl <;> exact fun d h => fineB_ok (List.all_eq_true.mp (by decide +kernel) d h)
theorem bad24_fine : ∀ d ∈ bad2 ++ bad3 ++ bad4, Fine 120 40 d := fun d h => fineB_ok (List.all_eq_true.mp (show (bad2 ++ bad3 ++ bad4).all fineB = true by decide +kernel) d h)
def spBadSay : Sp := fun vs H Q _ => ∃ (a l : Addr) (n : Int), vs = [.ref a, .int n] ∧ Deck H a l ∧ 0 ≤ n ∧ n ≤ 6 ∧ ∀ (v : V) (d : PyData) (H' : Hp), Fresh a H H' v d → Fine 120 40 d → Deck H' a l → Fr a H H' → Q v H'
section
variable {P : Program} {w : World} {K : PySem.W.Frag} {mg : Str → Option Value} {base : Heap}
abbrev sLawBadSaying : Stmt := top 37
theorem scLawBadSaying : FnScope ["deck", "many", "odd"] ["deck", "many"] (defScope sLawBadSaying) := ⟨rfl, rfl, rfl, by decide +kernel, rfl, by decide +kernel, by decide +kernel⟩
theorem ok_badSay {f : Addr} {fd : FuncData} (F : Fun K "_law_bad_saying" "_law_bad_saying" sLawBadSaying f fd) (T : Txt mg) (HT : Has P w K mg base "_law_take" ["deck", "many"] 1 spTake) (HO : Has P w K mg base "_law_odd" ["deck"] 3 spOdd) : FnOk P w K mg base CX0 4 f fd ["deck", "many"] spBadSay := by
  refine F.ok scLawBadSaying (fun vs H Q E h => ?_) (fun cdv A outer s H vs Q E hr h => ?_)
  · obtain ⟨a, l, n, rfl, _⟩ := h
    rfl
  · obtain ⟨a, l, n, rfl, hdk, n0, n6, k⟩ := h
    obtain ⟨N, hN⟩ : ∃ N : Out, N = fun p => H p ≠ none := ⟨_, rfl⟩
    have us : Used N H := fun p n => by rw [hN] at n; exact n
    have na : N a := by
      rw [hN]
      intro z
      obtain ⟨ys, e⟩ := hdk.is
      rw [z] at e
      cases e
    refine ⟨_, (pss_cons (ps_set (i := 2) scLawBadSaying.nd rfl (by first | exact Or.inl rfl | exact Or.inr rfl) (litp_lst (N := N) (p := Slot 1 n) (litsp_cons (litp_of (lit_tup (lits_cons lit_str lits_nil) (by decide))) (litsp_cons (litp_of (lit_tup (lits_cons lit_str (lits_cons (lit_tup (lits_cons lit_int lits_nil) (by decide)) (lits_cons (lit_tup (lits_cons lit_int lits_nil) (by decide)) lits_nil))) (by decide))) (litsp_cons (litp_of (lit_tup (lits_cons lit_str (lits_cons (lit_tup (lits_cons lit_int lits_nil) (by decide)) lits_nil)) (by decide))) (litsp_cons (litp_of (lit_tup (lits_cons lit_str (lits_cons (lit_lst (lits_cons lit_int lits_nil) (by decide)) lits_nil)) (by decide))) (litsp_cons (litp_tup (litsp_cons (litp_of lit_str) (litsp_cons (litp_tup (litsp_cons (litp_var (pv 1)) litsp_nil) (by simp)) litsp_nil)) (by simp)) (litsp_cons (litp_of (lit_tup (lits_cons lit_str (lits_cons (lit_tup (lits_cons lit_int (lits_cons lit_int lits_nil)) (by decide)) lits_nil)) (by decide))) litsp_nil)))))) (by simp)))
      (pss_cons (ps_set (i := 2) scLawBadSaying.nd rfl (by first | exact Or.inl rfl | exact Or.inr rfl) (pe_op op_cat (pv 2) (lit_lst (N := N) (lits_cons (lit_tup (lits_cons lit_str (lits_cons (lit_tup (lits_cons lit_int lits_nil) (by decide)) lits_nil)) (by decide)) (lits_cons (lit_tup (lits_cons lit_int (lits_cons (lit_tup (lits_cons lit_int lits_nil) (by decide)) lits_nil)) (by decide)) (lits_cons (lit_lst (lits_cons lit_str (lits_cons (lit_tup (lits_cons lit_int lits_nil) (by decide)) lits_nil)) (by decide)) (lits_cons (lit_tup (lits_cons lit_str (lits_cons lit_int lits_nil)) (by decide)) (lits_cons (lit_tup (lits_cons lit_str (lits_cons (lit_tup (lits_cons lit_bl lits_nil) (by decide)) lits_nil)) (by decide)) (lits_cons (lit_tup (lits_cons lit_str (lits_cons (lit_tup lits_nil (by decide)) (lits_cons (lit_tup lits_nil (by decide)) (lits_cons (lit_tup lits_nil (by decide)) lits_nil)))) (by decide)) lits_nil)))))) (by decide))))
      (pss_cons (ps_set (i := 2) scLawBadSaying.nd rfl (by first | exact Or.inl rfl | exact Or.inr rfl) (pe_op op_cat (pv 2) (lit_lst (N := N) (lits_cons (lit_tup (lits_cons lit_str (lits_cons (lit_tup (lits_cons lit_int (lits_cons lit_int lits_nil)) (by decide)) lits_nil)) (by decide)) (lits_cons (lit_tup (lits_cons lit_str (lits_cons lit_str lits_nil)) (by decide)) (lits_cons (lit_tup (lits_cons lit_str (lits_cons (lit_tup lits_nil (by decide)) (lits_cons lit_non lits_nil))) (by decide)) (lits_cons (lit_tup lits_nil (by decide)) (lits_cons lit_non (lits_cons lit_str (lits_cons (lit_tup (lits_cons lit_str (lits_cons (lit_tup lits_nil (by decide)) lits_nil)) (by decide)) (lits_cons (lit_tup (lits_cons (lit_tup (lits_cons lit_str (lits_cons (lit_tup lits_nil (by decide)) lits_nil)) (by decide)) lits_nil) (by decide)) lits_nil)))))))) (by decide))))
      (pss_cons (ps_set (i := 2) scLawBadSaying.nd rfl (by first | exact Or.inl rfl | exact Or.inr rfl) (pe_op op_cat (pv 2) (pe_lst (litand_cons (N := N) (lit_tup (lits_cons lit_str (lits_cons (lit_tup (lits_cons lit_neg lits_nil) (by decide)) lits_nil)) (by decide)) (litand_cons (N := N) (lit_tup (lits_cons lit_str (lits_cons (lit_tup (lits_cons lit_non lits_nil) (by decide)) lits_nil)) (by decide)) (litand_one (pe_callH HO (hr.mono (by decide)) rfl (pa_cons (pv 0) pa_nil))))))))
      (pss_one (ps_ret (pe_ix ix_list (pv 2) (pe_callH HT (hr.mono (by decide)) rfl (pa_cons (pv 0) (pa_cons (pe_callB call_len rfl T.len PySem.boot_len (pa_cons (pv 2) pa_nil)) pa_nil))) (fun _ _ => rfl)))))))), ?_⟩
    refine ⟨rfl, us, fun v1 H1 s1 d1 => ?_⟩
    obtain ⟨p1, xs1, rfl, n1, h1, r1⟩ := dt_lst d1
    refine ⟨_, rfl, us.same s1, fun v2 H2 s2 d2 => ?_⟩
    obtain ⟨p2, xs2, rfl, n2, h2, r2⟩ := dt_lst d2
    have l1 : xs1.length = 6 := r1.len
    have l2 : xs2.length = 6 := r2.len
    refine ⟨_, _, _, _, rfl, rfl, s2 _ _ h1, h2, by show _ ≤ sizeLine; rw [l1, l2]; decide, fun p3 e3 => ?_⟩
    have s3 : Same H2 (upd H2 p3 (.lst (xs1 ++ xs2))) := Same.new e3
    have h3 : (upd H2 p3 (.lst (xs1 ++ xs2))) p3 = some (.lst (xs1 ++ xs2)) := upd_same
    generalize upd H2 p3 (.lst (xs1 ++ xs2)) = H3 at *
    refine ⟨_, rfl, us.same ((s1.trans s2).trans s3), fun v4 H4 s4 d4 => ?_⟩
    obtain ⟨p4, xs4, rfl, n4, h4, r4⟩ := dt_lst d4
    have l4 : xs4.length = 8 := r4.len
    refine ⟨_, _, _, _, rfl, rfl, s4 _ _ h3, h4, by show _ ≤ sizeLine; rw [List.length_append, l1, l2, l4]; decide, fun p5 e5 => ?_⟩
    have s5 : Same H4 (upd H4 p5 (.lst ((xs1 ++ xs2) ++ xs4))) := Same.new e5
    have h5 : (upd H4 p5 (.lst ((xs1 ++ xs2) ++ xs4))) p5 = some (.lst ((xs1 ++ xs2) ++ xs4)) := upd_same
    have l5 : ((xs1 ++ xs2) ++ xs4).length = 20 := by rw [List.length_append, List.length_append, l1, l2, l4]
    generalize upd H4 p5 (.lst ((xs1 ++ xs2) ++ xs4)) = H5 at *
    have r5 := ((r1.fr (FrO.same (s2.trans (s3.trans (s4.trans s5))))).append (r2.fr (FrO.same (s3.trans (s4.trans s5))))).append (r4.fr (FrO.same s5))
    generalize (xs1 ++ xs2) ++ xs4 = xs5 at *
    have s05 := (s1.trans s2).trans (s3.trans (s4.trans s5))
    refine ⟨_, rfl, us.same s05, fun vs6 H6 s6 r6 => ?_⟩
    have l6 : vs6.length = 2 := r6.len
    have s06 := s05.trans s6
    have dk6 := hdk.keep s06
    have h56 := s6 _ _ h5
    have np5 : p5 ≠ a := fun z => by
      obtain ⟨ys, e⟩ := (hdk.keep ((s1.trans s2).trans (s3.trans s4))).is
      rw [← z, e5] at e
      cases e
    refine ⟨_, rfl, a, l, rfl, dk6, fun v7 d7 H7 fv7 fi7 dk7 f7 => ?_⟩
    refine ⟨by show _ ≤ sizeLine; rw [List.length_append, l6]; exact (by decide : 2 + 1 ≤ sizeLine), fun p8 e8 => ?_⟩
    have s8 : Same H7 (upd H7 p8 (.lst (vs6 ++ [v7]))) := Same.new e8
    have h8 : (upd H7 p8 (.lst (vs6 ++ [v7]))) p8 = some (.lst (vs6 ++ [v7])) := upd_same
    have l8 : (vs6 ++ [v7]).length = 3 := by rw [List.length_append, l6]; rfl
    generalize upd H7 p8 (.lst (vs6 ++ [v7])) = H8 at *
    have h58 := s8 _ _ (f7 _ _ h56 np5)
    refine ⟨_, _, _, _, rfl, rfl, h58, h8, by show _ ≤ sizeLine; rw [l5, l8]; decide, fun p9 e9 => ?_⟩
    have s9 : Same H8 (upd H8 p9 (.lst (xs5 ++ (vs6 ++ [v7])))) := Same.new e9
    have h9 : (upd H8 p9 (.lst (xs5 ++ (vs6 ++ [v7])))) p9 = some (.lst (xs5 ++ (vs6 ++ [v7]))) := upd_same
    generalize upd H8 p9 (.lst (xs5 ++ (vs6 ++ [v7]))) = H9 at *
    have dk8 := dk7.keep s8
    have np9 : p9 ≠ a := fun z => by
      obtain ⟨ys, e⟩ := dk8.is
      rw [← z, e9] at e
      cases e
    have dk9 := dk8.keep s9
    have f69 : Fr a H6 H9 := f7.trans (Fr.same (s8.trans s9))
    have fo69 : FrO N H6 H9 := fun b o e n => f69 b o e fun z => n (z ▸ na)
    have r9 : DtAll N H9 (xs5 ++ (vs6 ++ [v7])) (((bad1 n ++ bad2) ++ bad3) ++ (bad4 ++ [d7])) := by
      refine ((r5.fr (FrO.same s6)).fr fo69).append ((r6.fr fo69).append (.cons ?_ .nil))
      have q := fv7 (fun p => H6 p ≠ none) (by
        intro z
        obtain ⟨ys, e⟩ := dk6.is
        rw [z] at e
        cases e) (fun p n => n)
      have q9 : Dt (fun p => H6 p ≠ none) H9 v7 d7 := q.fr (FrO.same (s8.trans s9))
      exact q9.less fun p np => us.same s06 p np
    have len9 : (xs5 ++ (vs6 ++ [v7])).length = 23 := by rw [List.length_append, l5, l8]
    have fr09 : Fr a H H9 := (Fr.same s06).trans f69
    refine ⟨_, rfl, _, rfl, _, rfl, _, _, rfl, .inl ⟨_, SqL.of h9, rfl⟩, a, l, _, rfl, dk9, by rw [len9]; decide, by rw [len9]; decide, fun j HA j0 j1 dkA fA oA => ?_⟩
    rw [len9] at j1
    have jl : j.toNat < (xs5 ++ (vs6 ++ [v7])).length := by rw [len9]; omega
    have gA : (xs5 ++ (vs6 ++ [v7]))[j.toNat]? = some ((xs5 ++ (vs6 ++ [v7]))[j.toNat]) := List.getElem?_eq_getElem jl
    obtain ⟨dA, atA, tA⟩ := r9.get gA
    have fineA : Fine 120 40 dA := by
      rcases List.mem_append.mp (List.mem_of_getElem? atA) with m | m
      · rcases List.mem_append.mp m with m | m
        · rcases List.mem_append.mp m with m | m
          · exact bad1_fine ⟨n0, n6⟩ dA m
          · exact bad24_fine dA (List.mem_append_left _ (List.mem_append_left _ m))
        · exact bad24_fine dA (List.mem_append_left _ (List.mem_append_right _ m))
      · rcases List.mem_append.mp m with m | m
        · exact bad24_fine dA (List.mem_append_right _ m)
        · obtain rfl := List.mem_singleton.mp m
          exact fi7
    refine ⟨p9, _, _, _, rfl, rfl, SqL.of (fA _ _ h9 np9), at_of (j := j.toNat) (by omega) gA, ?_⟩
    refine k _ dA HA (fun N0 n0 u0 => ?_) fineA dkA (fr09.trans fA)
    have t := tA.fr (H' := HA) fun b o e n => fA b o e fun z => n (z ▸ na)
    exact t.less fun p np => by rw [hN]; exact u0 p np
theorem inV_two (z x y : Str) : inV (.str z) [.str x, .str y] = decide (z = x ∨ z = y) := by
  have q := inV_str z [x, y]
  rw [show ([x, y] : List Str).map V.str = [.str x, .str y] from rfl] at q
  rw [q, decide_eq_decide]
  simp
theorem sayB_long {n : Int} {ds : List PyData} (h : ds.length ≠ 2 ∧ ds.length ≠ 3) : sayB n (.tuple ds) = false := by
  cases ds with
  | nil => rfl
  | cons d0 r =>
    cases d0 with
    | str z =>
      have : ¬ wordN z = some r.length := fun e => by
        have l : (PyData.str z :: r).length = r.length + 1 := rfl
        unfold wordN at e
        split at e
        · have := Option.some.inj e; omega
        · split at e
          · have := Option.some.inj e; omega
          · split at e
            · have := Option.some.inj e; omega
            · cases e
      simp only [sayB, decide_eq_false this, Bool.false_and]
    | _ => rfl
theorem sayB_two {n : Int} {z : Str} {ds : List PyData} (h : ds.length = 1) : sayB n (.tuple (.str z :: ds)) = (ds.all (cellD n) && decide (z = "never" ∨ z = "some")) := by
  have nt : ("then" : Str) ≠ "never" := by decide
  have ns : ("then" : Str) ≠ "some" := by decide
  simp only [sayB, h]
  rw [Bool.and_comm]
  congr 1
  rw [decide_eq_decide]
  unfold wordN
  constructor
  · intro e
    split at e
    · next q => exact .inl q
    · split at e
      · next q => exact .inr q
      · split at e
        · cases e
        · cases e
  · rintro (rfl | rfl)
    · rfl
    · rw [if_neg (by decide), if_pos rfl]
theorem sayB_three {n : Int} {z : Str} {ds : List PyData} (h : ds.length = 2) : sayB n (.tuple (.str z :: ds)) = (ds.all (cellD n) && decide (z = "then")) := by
  simp only [sayB, h]
  rw [Bool.and_comm]
  congr 1
  rw [decide_eq_decide]
  unfold wordN
  constructor
  · intro e
    split at e
    · cases e
    · split at e
      · cases e
      · split at e
        · next q => exact q
        · cases e
  · rintro rfl
    rw [if_neg (by decide), if_neg (by decide), if_pos rfl]
def spLawIsSay : Sp := fun vs H Q _ => ∃ (N : Out) (n : Int) (v : V) (d : PyData), vs = [.int n, v] ∧ Dt N H v d ∧ (∀ ds, d = .tuple ds → ds.length ≤ 900 ∧ ∀ e ∈ ds, ∀ es, e = .tuple es → es.length ≤ 900) ∧ ∀ H', Same H H' → Q (.bl (sayB n d)) H'
abbrev sLawIsSaying : Stmt := top 38
theorem scLawIsSaying : FnScope ["many", "thing", "marks"] ["many", "thing"] (defScope sLawIsSaying) := ⟨rfl, rfl, rfl, by decide +kernel, rfl, by decide +kernel, by decide +kernel⟩
theorem ok_lawIsSay {f : Addr} {fd : FuncData} (F : Fun K "_law_is_saying" "_law_is_saying" sLawIsSaying f fd) (T : Txt mg) (HM : Has P w K mg base "_law_are_marks" ["thing", "many"] 2 spMarksD) : FnOk P w K mg base CX0 3 f fd ["many", "thing"] spLawIsSay := by
  refine F.ok scLawIsSaying (fun vs H Q E h => ?_) (fun cdv A outer s H vs Q E hr h => ?_)
  · obtain ⟨N, n, v, d, rfl, _⟩ := h
    rfl
  · obtain ⟨N, n, v, d, rfl, hd, wide, k⟩ := h
    refine ⟨_, (pss_cons (ps_if (PW.pt (pw_or (pt_not (pt_val (pe_callB call_isi rfl T.isinstance (by decide +kernel) (pa_cons (pv 1) (pa_cons (pe_bltn rfl T.tuple (by decide +kernel) (v := V.ty "tuple") rfl) pa_nil))))) (pw_or (pt_cmpR op_notIn_seq (pe_callB call_len rfl T.len PySem.boot_len (pa_cons (pv 1) pa_nil)) (pe_tup (pa_cons pe_int (pa_cons pe_int pa_nil))) (by with_unfolding_all rfl)) (pw_or1 (pt_not (pt_val (pe_callB call_isi rfl T.isinstance (by decide +kernel) (pa_cons (pe_ix ix_tup (pv 1) pe_int (fun _ _ => rfl)) (pa_cons (pe_bltn rfl T.str (by decide +kernel) (v := V.ty "str") rfl) pa_nil))))))))) (pss_one (ps_ret pe_bl)) pss_nil)
      (pss_cons (ps_if (pt_not (pt_val (pe_callB (cr_all rfl) rfl T.all (by decide +kernel) (pa_cons (pe_lc (own := [("marks", 2)]) rfl scLawIsSaying.nd (pi_tup (pe_slice sl_tupA (pv 1) (po_some pe_int) po_none)) (blkOk_by (N := ["many", "thing", "marks"]) (sc := defScope sLawIsSaying) (by decide +kernel)) (fun _ _ _ _ _ => (pg_name (i := 2) scLawIsSaying.nd rfl (by first | exact Or.inl rfl | exact Or.inr rfl))) (fun _ _ _ _ _ => pts_nil) (fun _ _ _ _ _ => (pe_callH HM (hr.mono (by decide)) rfl (pa_cons (pv 2) (pa_cons (pv 0) pa_nil))))) pa_nil)))) (pss_one (ps_ret pe_bl)) pss_nil)
      (pss_one (ps_ret (pe_or (pe_and (pe_cmpR op_eq (pe_callB call_len rfl T.len PySem.boot_len (pa_cons (pv 1) pa_nil)) pe_int (nomark _)) (pe_one (pe_cmpR op_in_seq (pe_ix ix_tup (pv 1) pe_int (fun _ _ => rfl)) (pe_tup (pa_cons pe_str (pa_cons pe_str pa_nil))) (by with_unfolding_all rfl)))) (pe_one (pe_and (pe_cmpR op_eq (pe_callB call_len rfl T.len PySem.boot_len (pa_cons (pv 1) pa_nil)) pe_int (nomark _)) (pe_one (pe_cmpR op_eq (pe_ix ix_tup (pv 1) pe_int (fun _ _ => rfl)) pe_str (nomark _)))))))))), ?_⟩
    refine ⟨_, rfl, _, _, _, _, _, rfl, .ty _, dt_ty hd, kit_D d (.inr (.inr (.inr (.inr (.inl rfl))))), _, rfl, ?_⟩
    cases h1 : isaD "tuple" d with
    | false =>
      have e : sayB n d = false := by cases d <;> first | rfl | (rw [(isa_tup _).mpr ⟨_, rfl⟩] at h1; cases h1)
      rw [e] at k
      exact iteT (k H (Same.refl H))
    | true =>
      obtain ⟨ds0, rfl⟩ := (isa_tup d).mp h1
      obtain ⟨p, xs, rfl, _, hp, r⟩ := dt_tup hd
      have len : xs.length = ds0.length := r.len
      refine ⟨_, rfl, _, xs.length, rfl, .inr ⟨_, sqT hp, rfl⟩, (by show 2 ≤ sizeLine; decide), fun t ht => ?_⟩
      have et : (upd H t (.tup [.int 2, .int 3])) t = some (.tup [.int 2, .int 3]) := upd_same
      have s1 : Same H (upd H t (.tup [.int 2, .int 3])) := Same.new ht
      generalize upd H t (.tup [.int 2, .int 3]) = H1 at *
      have hp1 := s1 _ _ hp
      refine ⟨t, _, rfl, .inr (sqT et), rfl, rfl, _, rfl, ?_⟩
      have ein : inV (V.int ((xs.length : Nat) : Int)) [.int 2, .int 3] = decide (ds0.length = 2 ∨ ds0.length = 3) := by
        rw [len]
        have q := inV_int ((ds0.length : Nat) : Int) [2, 3]
        rw [show ([2, 3] : List Int).map V.int = [.int 2, .int 3] from rfl] at q
        rw [q, decide_eq_decide]
        simp only [List.mem_cons, List.not_mem_nil, or_false]
        omega
      rw [ein]
      by_cases l23 : ds0.length = 2 ∨ ds0.length = 3
      · rw [decide_eq_true l23]
        obtain ⟨d0, ds, rfl⟩ : ∃ d0 ds, ds0 = d0 :: ds := by
          cases ds0 with
          | nil => rcases l23 with h | h <;> cases h
          | cons a r => exact ⟨_, _, rfl⟩
        cases r with
        | @cons v0 ys _ _ h0 r =>
          refine ⟨_, rfl, p, _, _, _, rfl, rfl, sqT hp1, at_of (j := 0) rfl rfl, _, _, _, _, _, rfl, .ty _, dt_ty (h0.fr (FrO.same s1)), kit_D d0 (.inr (.inr (.inl rfl))), _, rfl, ?_⟩
          cases h2 : isaD "str" d0 with
          | false =>
            have e : sayB n (.tuple (d0 :: ds)) = false := by cases d0 <;> first | rfl | (exfalso; revert h2; decide +kernel) | (simp [isaD, isaT, tyD] at h2)
            rw [e] at k
            exact iteT (k _ s1)
          | true =>
            obtain ⟨z, rfl⟩ : ∃ z, d0 = .str z := by cases d0 <;> first | exact ⟨_, rfl⟩ | (simp [isaD, isaT, tyD] at h2)
            cases h0
            refine iteF ?_
            have len2 : ys.length = ds.length := r.len
            refine ⟨_, rfl, _, rfl, ?_⟩
            refine slice1 hp1 (fun q hq => ?_)
            have s2 : Same H1 (upd H1 q (.tup ys)) := Same.new hq
            have e2 : (upd H1 q (.tup ys)) q = some (.tup ys) := upd_same
            generalize upd H1 q (.tup ys) = H2 at *
            have r2 := r.fr (FrO.same (s1.trans s2))
            have few : ds.length ≤ 2 := by
              have l : (PyData.str z :: ds).length = ds.length + 1 := rfl
              omega
            refine ⟨q, rfl, ⟨_, sqT e2⟩, fun D hD => ?_⟩
            refine lc_tup (K := K) (a := q) (xs := ys) (fun j H4 => Same H2 H4 ∧ H4 D = some (.lst (((ds.take j).map (cellD n)).map V.bl))) ⟨Same.new hD, upd_same⟩ (fun j H4 _ ⟨e, _⟩ => sqT (e _ _ e2)) ?_ ?_
            · rintro j x H4 hj ⟨s4, e4⟩
              obtain ⟨d1, at1, hx⟩ := (r2.fr (FrO.same s4)).get hj
              have lj := (List.getElem?_eq_some_iff.mp at1).1
              refine ⟨rfl, _, rfl, _, rfl, N, n, x, d1, rfl, hx, (fun es e => (wide _ rfl).2 d1 (List.mem_cons_of_mem _ (List.mem_of_getElem? at1)) es e), fun H5 s5 => ?_⟩
              refine ⟨_, s5 _ _ e4, (by rw [List.length_map, List.length_map, List.length_take]; exact small1000 (by omega)), ?_⟩
              refine ⟨fun b o h => by rw [upd_ne (ne_of_none h hD)]; exact s5 _ _ (s4 _ _ h), ?_⟩
              rw [upd_same, List.take_add_one, at1, List.map_append, List.map_append]
              rfl
            · rintro H4 ⟨s4, e4⟩
              rw [len2, List.take_length] at e4
              refine ⟨D, _, rfl, SqL.of e4, ?_⟩
              have ea : ((ds.map (cellD n)).all id) = ds.all (cellD n) := by rw [List.all_map]; rfl
              rw [ea]
              have s04 := (s1.trans s2).trans s4
              have hp4 := s04 _ _ hp
              have lenT : (V.str z :: ys).length = ds.length + 1 := by rw [List.length_cons, len2]
              refine ⟨_, rfl, ?_⟩
              cases hc : ds.all (cellD n) with
              | false =>
                refine iteT ?_
                have e : sayB n (.tuple (.str z :: ds)) = false := by simp only [sayB, hc, Bool.and_false]
                rw [e] at k
                exact k _ s04
              | true =>
                refine iteF ?_
                refine ⟨_, rfl, _, (V.str z :: ys).length, rfl, .inr ⟨_, sqT hp4, rfl⟩, rfl, ?_⟩
                rcases l23 with l2 | l3
                · have l1 : ds.length = 1 := by
                    have l : (PyData.str z :: ds).length = ds.length + 1 := rfl
                    omega
                  rw [lenT, l1]
                  rw [sayB_two l1, hc, Bool.true_and] at k
                  refine ⟨_, rfl, iteT ?_⟩
                  refine ⟨_, rfl, p, _, _, _, rfl, rfl, sqT hp4, at_of (j := 0) rfl rfl, (by show 2 ≤ sizeLine; decide), fun t7 ht7 => ?_⟩
                  have s7 : Same H4 (upd H4 t7 (.tup [.str "never", .str "some"])) := Same.new ht7
                  have e7 : (upd H4 t7 (.tup [.str "never", .str "some"])) t7 = some (.tup [.str "never", .str "some"]) := upd_same
                  generalize upd H4 t7 (.tup [.str "never", .str "some"]) = H7 at *
                  refine ⟨t7, _, rfl, .inr (sqT e7), rfl, rfl, _, rfl, ?_⟩
                  have ei : inV (V.str z) [.str "never", .str "some"] = decide (z = "never" ∨ z = "some") := inV_two z "never" "some"
                  rw [ei]
                  have k7 := k H7 (s04.trans s7)
                  cases hz : decide (z = "never" ∨ z = "some") with
                  | true =>
                    rw [hz] at k7
                    exact iteT k7
                  | false =>
                    rw [hz] at k7
                    refine iteF ?_
                    refine ⟨_, rfl, _, (V.str z :: ys).length, rfl, .inr ⟨_, sqT (s7 _ _ hp4), rfl⟩, rfl, ?_⟩
                    rw [lenT, l1]
                    exact ⟨_, rfl, iteF k7⟩
                · have l1 : ds.length = 2 := by
                    have l : (PyData.str z :: ds).length = ds.length + 1 := rfl
                    omega
                  rw [lenT, l1]
                  rw [sayB_three l1, hc, Bool.true_and] at k
                  refine ⟨_, rfl, iteF ?_⟩
                  refine ⟨_, rfl, iteF ?_⟩
                  refine ⟨_, rfl, _, (V.str z :: ys).length, rfl, .inr ⟨_, sqT hp4, rfl⟩, rfl, ?_⟩
                  rw [lenT, l1]
                  refine ⟨_, rfl, iteT ?_⟩
                  refine ⟨_, rfl, p, _, _, _, rfl, rfl, sqT hp4, at_of (j := 0) rfl rfl, rfl, ?_⟩
                  have k7 := k H4 s04
                  rw [show decide (V.str z = V.str "then") = decide (z = "then") from decide_eq_decide.mpr ⟨fun h => by injection h, fun h => by rw [h]⟩]
                  exact k7
      · rw [decide_eq_false l23]
        rw [sayB_long ⟨fun e => l23 (.inl e), fun e => l23 (.inr e)⟩] at k
        exact iteT (k _ s1)
end
end Xci

namespace Xci
open PySem L2
def spLaw (K : PySem.W.Frag) : Sp := fun vs H Q _ => ∃ (a : Addr) (ns : List Int), vs = [.ref a] ∧ SqL K H a (ns.map V.int) ∧ ns.length ≤ 63 ∧ ∀ H' : Hp, Q (.bl true) H'
def oddL : List PyData := [.none, .int (-1), .int 7, .bool true, .bool false, .str "3", .tuple [.int 3], .list [.int 3], .int (10 ^ (20 : Int).toNat), .dict []]
theorem oddL_bad : ∀ d ∈ oddL, btwD 0 4 d = false ∧ btwD 0 6 d = false := fun d hd => by
  have q := List.all_eq_true.mp (show oddL.all (fun d => !btwD 0 4 d && !btwD 0 6 d) = true by decide +kernel) d hd
  simp only [Bool.and_eq_true, Bool.not_eq_true'] at q
  exact q
def rightL : List PyData := [.tuple [.str "never", .tuple [.int 0, .int 1]], .tuple [.str "some", .tuple [.int 0, .int 1]], .tuple [.str "then", .tuple [.int 0], .tuple [.int 1]], .tuple [.str "then", .tuple [], .tuple []]]
theorem right_ok {n : Int} (h : 2 ≤ n) (h6 : n ≤ 6) : ∀ d ∈ rightL, sayB n d = true := by
  have : n = 2 ∨ n = 3 ∨ n = 4 ∨ n = 5 ∨ n = 6 := by omega
  rcases this with rfl | rfl | rfl | rfl | rfl <;> exact List.all_eq_true.mp (by decide +kernel)
theorem right_short : ∀ d ∈ rightL, ∀ ds, d = .tuple ds → ds.length ≤ 1000 := fun d hd ds e => by
  subst e
  simp only [rightL, List.mem_cons, List.not_mem_nil, or_false] at hd
  rcases hd with h | h | h | h <;> (cases h; simp)
def otherL : List PyData := [.none, .int 0, .str "never", .dict [], .bool true, .tuple [.str "never", .tuple [.int 0]], .int 5]
theorem other_bad (n : Int) : ∀ d ∈ otherL, saysB n d = false := fun d hd => by
  simp only [otherL, List.mem_cons, List.not_mem_nil, or_false] at hd
  rcases hd with rfl | rfl | rfl | rfl | rfl | rfl | rfl <;> rfl
abbrev Wd1 (dy : PyData) : Prop := ∀ es, dy = .list es ∨ dy = .tuple es → ∀ e ∈ es, ∀ ds, e = .tuple ds → ds.length ≤ 1000
theorem other_short : ∀ d ∈ otherL, Wd1 d := fun d hd es he e m ds ed => by
  subst ed
  simp only [otherL, List.mem_cons, List.not_mem_nil, or_false] at hd
  rcases hd with rfl | rfl | rfl | rfl | rfl | rfl | rfl <;> rcases he with he | he <;> cases he
  simp only [List.mem_cons, List.not_mem_nil, or_false] at m
  rcases m with m | m <;> cases m
  simp
/-- data that is a saying, as a saying -/
theorem say_of {N : Out} {H : Hp} {v : V} {d : PyData} {n : Int} (h : Dt N H v d) (b : sayB n d = true) : ∃ s : Saying, SayAt H v s ∧ ∀ m ∈ s.parts, MarksOk n m := by
  cases d with
  | tuple ds0 =>
    cases ds0 with
    | nil => cases b
    | cons d0 ds =>
      cases d0 with
      | str z =>
        simp only [sayB, Bool.and_eq_true, decide_eq_true_eq] at b
        obtain ⟨b1, b2⟩ := b
        obtain ⟨p, xs, rfl, _, hp, r⟩ := dt_tup h
        cases r with
        | @cons _ ys _ _ h0 r =>
          cases h0
          obtain ⟨mk, ok⟩ := dt_cells r b2
          have l : (ds.map marksD).length = ds.length := List.length_map ..
          unfold wordN at b1
          split at b1
          · next e =>
            have l1 := Option.some.inj b1
            rw [← l] at l1
            match hm : ds.map marksD, l1 with
            | [m], _ =>
              rw [hm] at mk ok
              exact ⟨.nev m, ⟨p, ys, rfl, by rw [hp, e]; rfl, mk⟩, ok⟩
          · split at b1
            · next e =>
              have l1 := Option.some.inj b1
              rw [← l] at l1
              match hm : ds.map marksD, l1 with
              | [m], _ =>
                rw [hm] at mk ok
                exact ⟨.som m, ⟨p, ys, rfl, by rw [hp, e]; rfl, mk⟩, ok⟩
            · split at b1
              · next e =>
                have l1 := Option.some.inj b1
                rw [← l] at l1
                match hm : ds.map marksD, l1 with
                | [m, k], _ =>
                  rw [hm] at mk ok
                  exact ⟨.thn m k, ⟨p, ys, rfl, by rw [hp, e]; rfl, mk⟩, ok⟩
              · cases b1
      | _ => cases b
  | _ => cases b
theorem says_of {N : Out} {H : Hp} {n : Int} : ∀ {vs : List V} {ds : List PyData}, DtAll N H vs ds → ds.all (sayB n) = true → ∃ ss : List Saying, Says H vs ss ∧ ss.length = ds.length ∧ ∀ s ∈ ss, ∀ m ∈ s.parts, MarksOk n m
  | _, _, .nil, _ => ⟨[], .nil, rfl, fun _ h => nomatch h⟩
  | _, _, .cons h r, b => by
    rw [List.all_cons, Bool.and_eq_true] at b
    obtain ⟨s, h1, h2⟩ := say_of h b.1
    obtain ⟨ss, h3, h4, h5⟩ := says_of r b.2
    refine ⟨s :: ss, .cons h1 h3, congrArg (· + 1) h4, fun s' hs => ?_⟩
    rcases List.mem_cons.mp hs with rfl | hs
    · exact h2
    · exact h5 s' hs
theorem kept_then {cs : List (List Int)} {k : Nat} : keptC cs (List.replicate k (.thn [] [])) = cs := by
  unfold keptC
  refine List.filter_eq_self.mpr fun c _ => ?_
  refine List.all_eq_true.mpr fun s hs => ?_
  rw [(List.mem_replicate.mp hs).2]
  rfl
theorem kept_some {cs : List (List Int)} : keptC cs [.som []] = [] := by
  unfold keptC
  exact List.filter_eq_nil_iff.mpr fun c _ => by simp [keepsB]
theorem kept_never {cs : List (List Int)} : keptC cs [.nev []] = [] := by
  unfold keptC
  exact List.filter_eq_nil_iff.mpr fun c _ => by simp [keepsB, inside]
theorem word_three (l : List (List Int)) : keptWord l = "cells" ∨ keptWord l = "many" ∨ keptWord l = "let" := by
  unfold keptWord
  split
  · exact .inl rfl
  · split
    · exact .inr (.inl rfl)
    · exact .inr (.inr rfl)
theorem word_all {n : Int} {cs : List (List Int)} (h : 2 ≤ n) (h6 : n ≤ 6) (p : cs.Perm (lots (rng n))) : keptWord cs = (if 4 < n then ("many" : Str) else ("let" : Str)) := by
  have l := p.length_eq
  rw [lots_len, rng_len] at l
  have ne : cs ≠ [] := fun e => by
    rw [e] at l
    have := Nat.two_pow_pos n.toNat
    simp at l
    omega
  have : n = 2 ∨ n = 3 ∨ n = 4 ∨ n = 5 ∨ n = 6 := by omega
  unfold keptWord
  rw [if_neg ne, l]
  rcases this with rfl | rfl | rfl | rfl | rfl <;> rfl
theorem flat_rep {α : Type} (x : α) (k : Nat) : (List.replicate k [x]).flatten = List.replicate k x := by
  induction k with
  | zero => rfl
  | succ k ih => rw [List.replicate_succ, List.flatten_cons, ih]; rfl
theorem dts_rep {N : Out} {H : Hp} {v : V} {d : PyData} (h : Dt N H v d) : ∀ k : Nat, DtAll N H (List.replicate k v) (List.replicate k d)
  | 0 => .nil
  | k + 1 => .cons h (dts_rep h k)
theorem says_rep {H : Hp} {v : V} {s : Saying} (h : SayAt H v s) : ∀ k : Nat, Says H (List.replicate k v) (List.replicate k s)
  | 0 => .nil
  | k + 1 => .cons h (says_rep h k)
/-- new places are none of the data's -/
def NQ (a q : Addr) : Out := fun p => p = a ∨ p = q
mutual
theorem Dt.off {a q : Addr} {H : Hp} (free : H q = none) : ∀ {v : V} {d : PyData}, Dt (· = a) H v d → Dt (NQ a q) H v d
  | _, _, .non => .non
  | _, _, .bl b => .bl b
  | _, _, .int i => .int i
  | _, _, .str x => .str x
  | _, _, .lst n h r => .lst (fun z => z.elim n fun e => by rw [e, free] at h; cases h) h (DtAll.off free r)
  | _, _, .tup n h r => .tup (fun z => z.elim n fun e => by rw [e, free] at h; cases h) h (DtAll.off free r)
  | _, _, .dic n h r => .dic (fun z => z.elim n fun e => by rw [e, free] at h; cases h) h (DtAll.off free r)
theorem DtAll.off {a q : Addr} {H : Hp} (free : H q = none) : ∀ {vs : List V} {ds : List PyData}, DtAll (· = a) H vs ds → DtAll (NQ a q) H vs ds
  | _, _, .nil => .nil
  | _, _, .cons h r => .cons (Dt.off free h) (DtAll.off free r)
end
def sayD (s : Saying) : PyData := .tuple (.str s.word :: s.parts.map mkD)
theorem sayAt_of {N : Out} {H : Hp} {v : V} {s : Saying} (h : Dt N H v (sayD s)) : SayAt H v s := by
  obtain ⟨p, xs, rfl, _, hp, r⟩ := dt_tup h
  cases r with
  | cons h0 r =>
    cases h0
    exact ⟨p, _, rfl, hp, dt_mks_inv r⟩
theorem deck_new {a l t : Addr} {H : Hp} (dk : Deck H a l) (h : H t = none) : t ≠ a := fun z => by
  obtain ⟨ys, e⟩ := dk.is
  rw [← z, h] at e
  cases e
section
variable {P : Program} {w : World} {K : PySem.W.Frag} {mg : Str → Option Value} {base : Heap}
abbrev sLaw : Stmt := top 39
theorem scLaw : FnScope ["script", "deck", "odd", "turn", "bad", "most", "good", "which", "limit", "due", "many", "right", "sayings", "one", "at", "thing", "spoiled", "told", "other"] ["script"] (defScope sLaw) := ⟨rfl, rfl, rfl, by decide +kernel, rfl, by decide +kernel, by decide +kernel⟩
set_option maxHeartbeats 8000000 in
theorem ok_law {f : Addr} {fd : FuncData} (F : Fun K "law" "law" sLaw f fd) (T : Txt mg) (HT : Has P w K mg base "_law_take" ["deck", "many"] 1 spTake) (HD : Has P w K mg base "_law_deck" ["script"] 1 (spDeck K)) (HB : Has P w K mg base "_law_bad_saying" ["deck", "many"] 4 spBadSay)
    (HI : Has P w K mg base "_law_is_saying" ["many", "thing"] 3 spLawIsSay) (HTo : Has P w K mg base "_law_told" ["which", "many", "sayings"] 8 spTold) : FnOk P w K mg base CX0 9 f fd ["script"] (spLaw K) := by
  refine F.ok scLaw (fun vs H Q E h => ?_) (fun cdv A outer s H vs Q E hr h => ?_)
  · obtain ⟨z, ns, rfl, _⟩ := h
    rfl
  · obtain ⟨z, ns, rfl, hz, hl, k⟩ := h
    refine ⟨_, (pss_cons (ps_set (i := 1) scLaw.nd rfl (by first | exact Or.inl rfl | exact Or.inr rfl) (pe_callH HD (hr.mono (by decide)) rfl (pa_cons (pv 0) pa_nil)))
      (pss_cons (ps_set (i := 2) scLaw.nd rfl (by first | exact Or.inl rfl | exact Or.inr rfl) (fl_lst (fls_cons fl_non (fls_cons fl_neg (fls_cons fl_int (fls_cons fl_bl (fls_cons fl_bl (fls_cons fl_str (fls_cons (fl_tup (fls_cons fl_int fls_nil) (by decide)) (fls_cons (fl_lst (fls_cons fl_int fls_nil) (by decide)) (fls_cons (fl_pow (by decide)) (fls_cons fl_dict0 fls_nil)))))))))) (by decide)))
      (pss_cons (ps_for PassesOwn.never rfl (pi_range1 rfl T.range (pa_cons pe_int pa_nil)) (pg_name (i := 3) scLaw.nd rfl (by first | exact Or.inl rfl | exact Or.inr rfl)) (pss_cons (ps_set (i := 4) scLaw.nd rfl (by first | exact Or.inl rfl | exact Or.inr rfl) (pe_ix ix_list (pv 2) (pe_callH HT (hr.mono (by decide)) rfl (pa_cons (pv 1) (pa_cons pe_int pa_nil))) (fun _ _ => rfl)))
      (pss_cons (ps_set (i := 5) scLaw.nd rfl (by first | exact Or.inl rfl | exact Or.inr rfl) (pe_ix ix_tup (pe_tup (pa_cons pe_int (pa_cons pe_int (pa_cons pe_int pa_nil)))) (pe_callH HT (hr.mono (by decide)) rfl (pa_cons (pv 1) (pa_cons pe_int pa_nil))) (fun _ _ => rfl)))
      (pss_cons (ps_set (i := 6) scLaw.nd rfl (by first | exact Or.inl rfl | exact Or.inr rfl) (pe_callH HT (hr.mono (by decide)) rfl (pa_cons (pv 1) (pa_cons pe_int pa_nil))))
      (pss_cons (ps_for PassesOwn.never rfl (pi_range1 rfl T.range (pa_cons pe_int pa_nil)) (pg_name (i := 7) scLaw.nd rfl (by first | exact Or.inl rfl | exact Or.inr rfl)) (pss_cons (ps_set (i := 8) scLaw.nd rfl (by first | exact Or.inl rfl | exact Or.inr rfl) (pe_ix ix_tup (pe_tup (pa_cons pe_int (pa_cons pe_int pa_nil))) (pv 7) (fun _ _ => rfl)))
      (pss_cons (ps_set (i := 9) scLaw.nd rfl (by first | exact Or.inl rfl | exact Or.inr rfl) (pe_ix ix_list (pe_lst (pa_cons pe_str (pa_cons pe_str pa_nil))) (pe_callTy call_int1 rfl T.int (by decide +kernel) (pa_cons (pe_cmpR op_le (pv 6) (pv 8) (nomark _)) pa_nil)) (fun _ _ => rfl)))
      (pss_one (ps_if (PW.pt (pw_or (pt_cmpR op_ne (pe_callH HTo (hr.mono (by decide)) rfl (pa_cons (pv 7) (pa_cons (pv 4) (pa_cons pe_non pa_nil)))) pe_str (nomark _)) (pw_or1 (pt_cmpR op_ne (pe_callH HTo (hr.mono (by decide)) rfl (pa_cons (pv 7) (pa_cons (pv 6) (pa_cons pe_non pa_nil)))) (pv 9) (nomark _))))) (pss_one (ps_ret pe_bl)) pss_nil)))))
      (pss_cons (ps_set (i := 10) scLaw.nd rfl (by first | exact Or.inl rfl | exact Or.inr rfl) (pe_op op_add pe_int (pe_callH HT (hr.mono (by decide)) rfl (pa_cons (pv 1) (pa_cons pe_int pa_nil)))))
      (pss_cons (ps_set (i := 11) scLaw.nd rfl (by first | exact Or.inl rfl | exact Or.inr rfl) (fl_lst (fls_cons (fl_tup (fls_cons fl_str (fls_cons (fl_tup (fls_cons fl_int (fls_cons fl_int fls_nil)) (by decide)) fls_nil)) (by decide)) (fls_cons (fl_tup (fls_cons fl_str (fls_cons (fl_tup (fls_cons fl_int (fls_cons fl_int fls_nil)) (by decide)) fls_nil)) (by decide)) (fls_cons (fl_tup (fls_cons fl_str (fls_cons (fl_tup (fls_cons fl_int fls_nil) (by decide)) (fls_cons (fl_tup (fls_cons fl_int fls_nil) (by decide)) fls_nil))) (by decide)) (fls_cons (fl_tup (fls_cons fl_str (fls_cons (fl_tup fls_nil (by decide)) (fls_cons (fl_tup fls_nil (by decide)) fls_nil))) (by decide)) fls_nil)))) (by decide)))
      (pss_cons (ps_setLc (i := 12) (own := [("one", 13)]) rfl scLaw.nd rfl rfl (sw_true rfl rfl rfl (by decide +kernel)) (pi_range1 rfl T.range (pa_cons (pe_callH HT (hr.mono (by decide)) rfl (pa_cons (pv 1) (pa_cons pe_int pa_nil))) pa_nil)) (blkOk_by (N := ["script", "deck", "odd", "turn", "bad", "most", "good", "which", "limit", "due", "many", "right", "sayings", "one", "at", "thing", "spoiled", "told", "other"]) (sc := defScope sLaw) (by decide +kernel)) (fun _ _ _ _ _ => (pg_name (i := 13) scLaw.nd rfl (by first | exact Or.inl rfl | exact Or.inr rfl))) (fun _ _ _ _ _ => pts_nil) (fun _ _ _ _ _ => (pe_ix (show IxR _ (rIxL K) from ix_list) (pv 11) (pe_callH HT (hr.mono (by decide)) rfl (pa_cons (pv 1) (pa_cons pe_int pa_nil))) (fun _ _ => rfl))))
      (pss_cons (ps_set (i := 14) scLaw.nd rfl (by first | exact Or.inl rfl | exact Or.inr rfl) (pe_callH HT (hr.mono (by decide)) rfl (pa_cons (pv 1) (pa_cons (pe_op op_add (pe_callB call_len rfl T.len PySem.boot_len (pa_cons (pv 12) pa_nil)) pe_int) pa_nil))))
      (pss_cons (ps_set (i := 15) scLaw.nd rfl (by first | exact Or.inl rfl | exact Or.inr rfl) (pe_callH HB (hr.mono (by decide)) rfl (pa_cons (pv 1) (pa_cons (pv 10) pa_nil))))
      (pss_cons (ps_set (i := 16) scLaw.nd rfl (by first | exact Or.inl rfl | exact Or.inr rfl) (pe_op op_cat (pe_op op_cat (pe_slice sl_list (pv 12) po_none (po_some (pv 14))) (pe_lst (pa_cons (pv 15) pa_nil))) (pe_slice sl_list (pv 12) (po_some (pv 14)) po_none)))
      (pss_cons (ps_set (i := 9) scLaw.nd rfl (by first | exact Or.inl rfl | exact Or.inr rfl) pe_str)
      (C8.pss_cut (ps_if (pt_val (pe_callH HI (hr.mono (by decide)) rfl (pa_cons (pv 10) (pa_cons (pv 15) pa_nil)))) (pss_one (ps_set (i := 9) scLaw.nd rfl (by first | exact Or.inl rfl | exact Or.inr rfl) pe_str)) pss_nil)
      (C8.pss_cut (ps_set (i := 17) scLaw.nd rfl (by first | exact Or.inl rfl | exact Or.inr rfl) (pe_callH HTo (hr.mono (by decide)) rfl (pa_cons pe_int (pa_cons (pv 10) (pa_cons (pv 16) pa_nil)))))
      (C8.pss_cut (ps_if (PW.pt (pw_or (PW.pt (pw_and (pt_cmpR op_eq (pv 9) pe_str (nomark _)) (pw_and1 (pt_cmpR op_ne (pv 17) pe_str (nomark _))))) (pw_or1 (PW.pt (pw_and (pt_cmpR op_eq (pv 9) pe_str (nomark _)) (pw_and1 (pt_cmpR op_notIn_seq (pv 17) (pe_tup (pa_cons pe_str (pa_cons pe_str (pa_cons pe_str pa_nil)))) (by with_unfolding_all rfl)))))))) (pss_one (ps_ret pe_bl)) pss_nil)
      (pss_cons (ps_if (PW.pt (pw_or (pt_cmpR op_ne (pe_callH HTo (hr.mono (by decide)) rfl (pa_cons pe_int (pa_cons (pv 4) (pa_cons (pv 16) pa_nil)))) pe_str (nomark _)) (pw_or1 (pt_cmpR op_ne (pe_callH HTo (hr.mono (by decide)) rfl (pa_cons pe_int (pa_cons (pv 10) (pa_cons (pe_op op_rep (pe_lst (pa_cons (pe_ix ix_list (pv 11) pe_int (fun _ _ => rfl)) pa_nil)) pe_int) pa_nil)))) pe_str (nomark _))))) (pss_one (ps_ret pe_bl)) pss_nil)
      (pss_cons (ps_if (pt_cmpR op_ne (pe_callH HTo (hr.mono (by decide)) rfl (pa_cons pe_int (pa_cons (pv 10) (pa_cons (pe_op op_rep (pe_lst (pa_cons (pe_ix ix_list (pv 11) pe_int (fun _ _ => rfl)) pa_nil)) pe_int) pa_nil)))) (pe_ix ix_list (pe_lst (pa_cons pe_str (pa_cons pe_str pa_nil))) (pe_callTy call_int1 rfl T.int (by decide +kernel) (pa_cons (pe_cmpR op_gt (pv 10) pe_int (nomark _)) pa_nil)) (fun _ _ => rfl)) (nomark _)) (pss_one (ps_ret pe_bl)) pss_nil)
      (pss_cons (ps_set (i := 18) scLaw.nd rfl (by first | exact Or.inl rfl | exact Or.inr rfl) (pe_ix ix_list (fl_lst (fls_cons fl_non (fls_cons fl_int (fls_cons fl_str (fls_cons fl_dict0 (fls_cons fl_bl (fls_cons (fl_tup (fls_cons fl_str (fls_cons (fl_tup (fls_cons fl_int fls_nil) (by decide)) fls_nil)) (by decide)) (fls_cons fl_int fls_nil))))))) (by decide)) (pe_callH HT (hr.mono (by decide)) rfl (pa_cons (pv 1) (pa_cons pe_int pa_nil))) (fun _ _ => rfl)))
      (pss_cons (ps_if (PW.pt (pw_or (pt_cmpR op_ne (pe_callH HTo (hr.mono (by decide)) rfl (pa_cons pe_int (pa_cons (pv 10) (pa_cons (pv 18) pa_nil)))) pe_str (nomark _)) (pw_or1 (pt_cmpR op_ne (pe_callH HTo (hr.mono (by decide)) rfl (pa_cons pe_int (pa_cons (pv 10) (pa_cons (fl_lst (fls_cons (fl_tup (fls_cons fl_str (fls_cons (fl_tup fls_nil (by decide)) fls_nil)) (by decide)) fls_nil) (by decide)) pa_nil)))) pe_str (nomark _))))) (pss_one (ps_ret pe_bl)) pss_nil)
      (pss_one (ps_if (pt_cmpR op_ne (pe_callH HTo (hr.mono (by decide)) rfl (pa_cons pe_int (pa_cons (pv 5) (pa_cons (fl_lst (fls_cons (fl_tup (fls_cons fl_str (fls_cons (fl_tup fls_nil (by decide)) fls_nil)) (by decide)) fls_nil) (by decide)) pa_nil)))) pe_str (nomark _)) (pss_one (ps_ret pe_bl)) pss_nil)))))))))))))))))))))
      (pss_one (ps_ret pe_bl))))), ?_⟩
    refine ⟨_, rfl, z, ns, rfl, hz, hl, fun a l H1 dk s1 => ?_⟩
    refine fun vO H2 s2 nO => ?_
    have dk2 := dk.keep s2
    obtain ⟨po, xo, rfl, npo, hpo, ro⟩ := dt_lst (nO (· = a) (deck_used dk))
    refine ⟨5, rfl, by decide, by decide, for_range (n := 5) (fun i σ H' => (∃ o3 o4 o5 o6 o7 o8 o9 o10 o11 o12 o14 o15 o16 o17 o18 : Option V, σ = [some (.ref z), some (.ref a), some (.ref po), o3, o4, o5, o6, o7, o8, o9, o10, o11, o12, none, o14, o15, o16, o17, o18]) ∧ Deck H' a l ∧ H' po = some (.lst xo) ∧ DtAll (· = a) H' xo oddL) ⟨⟨none, none, none, none, none, none, none, none, none, none, none, none, none, none, none, rfl⟩, dk2, hpo, ro⟩ ?_ ?_⟩
    · rintro i σ H2 hi ⟨⟨o3, o4, o5, o6, o7, o8, o9, o10, o11, o12, o14, o15, o16, o17, o18, rfl⟩, dk2, hpo, ro⟩
      have lxo : xo.length = 10 := ro.len
      refine ⟨_, rfl, _, rfl, a, l, 10, rfl, dk2, by decide, by decide, fun jb H3 b0 b1 dk3 f3 _ => ?_⟩
      have ro3 := ro.fr (FrO.fr f3)
      have hpo3 := f3 _ _ hpo npo
      have gb : xo[jb.toNat]? = some (xo[jb.toNat]'(by omega)) := List.getElem?_eq_getElem (by omega)
      obtain ⟨db, atb, hb3⟩ := ro3.get gb
      have mb := List.mem_of_getElem? atb
      generalize xo[jb.toNat]'(by omega) = vb at *
      refine ⟨po, _, _, _, rfl, rfl, SqL.of hpo3, at_of (j := jb.toNat) (by omega) gb, ?_⟩
      refine ⟨(by show 3 ≤ sizeLine; decide), fun t ht => ?_⟩
      have et : (upd H3 t (.tup [.int 4, .int 6, .int 6])) t = some (.tup [.int 4, .int 6, .int 6]) := upd_same
      have s4 : Same H3 (upd H3 t (.tup [.int 4, .int 6, .int 6])) := Same.new ht
      generalize upd H3 t (.tup [.int 4, .int 6, .int 6]) = H4 at *
      have dk4 := dk3.keep s4
      refine ⟨_, rfl, a, l, 3, rfl, dk4, by decide, by decide, fun jm H5 m0 m1 dk5 f5 _ => ?_⟩
      obtain ⟨most, em, mm⟩ : ∃ most : Int, ([.int 4, .int 6, .int 6] : List V)[jm.toNat]? = some (.int most) ∧ (most = 4 ∨ most = 6) := by
        have : jm.toNat = 0 ∨ jm.toNat = 1 ∨ jm.toNat = 2 := by omega
        rcases this with e | e | e <;> rw [e]
        · exact ⟨4, rfl, .inl rfl⟩
        · exact ⟨6, rfl, .inr rfl⟩
        · exact ⟨6, rfl, .inr rfl⟩
      refine ⟨t, _, _, _, rfl, rfl, sqT (dk4.tfr f5 _ _ et), at_of (j := jm.toNat) (by omega) em, ?_⟩
      refine ⟨_, rfl, a, l, 7, rfl, dk5, by decide, by decide, fun g H6 g0 g1 dk6 f6 _ => ?_⟩
      have f36 : Fr a H3 H6 := (Fr.same s4).trans (f5.trans f6)
      have ro6 := ro3.fr (FrO.fr f36)
      have hb6 := hb3.fr (FrO.fr f36)
      have hpo6 := f36 _ _ hpo3 npo
      refine ⟨2, rfl, by decide, by decide, for_range (n := 2) (fun i2 σ H' => Same H6 H' ∧ ∃ o7 o8 o9 : Option V, σ = [some (.ref z), some (.ref a), some (.ref po), some (.int ((0 : Int) + (i : Int))), some vb, some (.int most), some (.int g), o7, o8, o9, o10, o11, o12, none, o14, o15, o16, o17, o18]) ⟨Same.refl _, _, _, _, rfl⟩ ?_ ?_⟩
      · rintro i2 σ H7 hi2 ⟨s7, o7, o8, o9, rfl⟩
        obtain rfl | rfl : i2 = 0 ∨ i2 = 1 := by omega
        · skip
          have si : Same H6 H6 := Same.refl H6
          refine ⟨(by show 2 ≤ sizeLine; decide), fun t1 ht1 => ?_⟩
          have st1 : Same H7 (upd H7 t1 (.tup [.int 4, .int 6])) := Same.new ht1
          have et1 : (upd H7 t1 (.tup [.int 4, .int 6])) t1 = some (.tup [.int 4, .int 6]) := upd_same
          generalize upd H7 t1 (.tup [.int 4, .int 6]) = H8 at *
          refine ⟨_, rfl, t1, _, _, _, rfl, rfl, sqT et1, at_of (j := 0) rfl rfl, ?_⟩
          refine ⟨(by show 2 ≤ sizeLine; decide), fun t2 ht2 => ?_⟩
          have st2 : Same H8 (upd H8 t2 (.lst [.str "number", .str "let"])) := Same.new ht2
          have et2 : (upd H8 t2 (.lst [.str "number", .str "let"])) t2 = some (.lst [.str "number", .str "let"]) := upd_same
          generalize upd H8 t2 (.lst [.str "number", .str "let"]) = H9 at *
          refine ⟨_, rfl, _, rfl, _, _, rfl, rfl, .inr ⟨_, rfl, ?_⟩⟩
          have s69 := s7.trans (st1.trans st2)
          have two : ([.str "number", .str "let"] : List V)[(if decide (g ≤ (4 : Int)) = true then 1 else 0 : Nat)]? = some (.str (if btwD 0 4 (.int g) = true then "let" else "number")) := by
            have e : btwD 0 4 (.int g) = decide (g ≤ (4 : Int)) := by
              simp only [btwD]
              rw [decide_eq_decide]
              omega
            rw [e]
            cases decide (g ≤ (4 : Int)) <;> rfl
          have ix : (if decide (g ≤ (4 : Int)) = true then (1 : Int) else 0) = (((if decide (g ≤ (4 : Int)) = true then 1 else 0 : Nat)) : Int) := by split <;> rfl
          refine ⟨t2, _, _, _, rfl, rfl, SqL.of et2, at_of (j := (if decide (g ≤ (4 : Int)) = true then 1 else 0 : Nat)) ix two, ?_⟩
          refine ⟨_, rfl, _, rfl, (· = a), _, vb, .non, db, .none, rfl, hb6.fr (FrO.same s69), .non, (fun es e => by rcases e with e | e <;> cases e), .inl ⟨rfl, fun HA sA => ?_⟩⟩
          rw [(oddL_bad db mb).1]
          refine ⟨rfl, _, rfl, ?_⟩
          refine iteF ?_
          refine ⟨_, rfl, _, rfl, (· = a), _, _, .non, .int g, .none, rfl, .int g, .non, (fun es e => by rcases e with e | e <;> cases e), .inl ⟨rfl, fun HB sB => ?_⟩⟩
          refine ⟨_, rfl, rfl, _, rfl, ?_⟩
          rw [show (!decide (V.str (if btwD 0 4 (.int g) = true then "let" else "number") = V.str (if btwD 0 4 (.int g) = true then "let" else "number"))) = false by simp]
          exact iteF ⟨s69.trans (sA.trans sB), _, _, _, rfl⟩
        · skip
          have si : Same H6 H6 := Same.refl H6
          refine ⟨(by show 2 ≤ sizeLine; decide), fun t1 ht1 => ?_⟩
          have st1 : Same H7 (upd H7 t1 (.tup [.int 4, .int 6])) := Same.new ht1
          have et1 : (upd H7 t1 (.tup [.int 4, .int 6])) t1 = some (.tup [.int 4, .int 6]) := upd_same
          generalize upd H7 t1 (.tup [.int 4, .int 6]) = H8 at *
          refine ⟨_, rfl, t1, _, _, _, rfl, rfl, sqT et1, at_of (j := 1) rfl rfl, ?_⟩
          refine ⟨(by show 2 ≤ sizeLine; decide), fun t2 ht2 => ?_⟩
          have st2 : Same H8 (upd H8 t2 (.lst [.str "number", .str "let"])) := Same.new ht2
          have et2 : (upd H8 t2 (.lst [.str "number", .str "let"])) t2 = some (.lst [.str "number", .str "let"]) := upd_same
          generalize upd H8 t2 (.lst [.str "number", .str "let"]) = H9 at *
          refine ⟨_, rfl, _, rfl, _, _, rfl, rfl, .inr ⟨_, rfl, ?_⟩⟩
          have s69 := s7.trans (st1.trans st2)
          have two : ([.str "number", .str "let"] : List V)[(if decide (g ≤ (6 : Int)) = true then 1 else 0 : Nat)]? = some (.str (if btwD 0 6 (.int g) = true then "let" else "number")) := by
            have e : btwD 0 6 (.int g) = decide (g ≤ (6 : Int)) := by
              simp only [btwD]
              rw [decide_eq_decide]
              omega
            rw [e]
            cases decide (g ≤ (6 : Int)) <;> rfl
          have ix : (if decide (g ≤ (6 : Int)) = true then (1 : Int) else 0) = (((if decide (g ≤ (6 : Int)) = true then 1 else 0 : Nat)) : Int) := by split <;> rfl
          refine ⟨t2, _, _, _, rfl, rfl, SqL.of et2, at_of (j := (if decide (g ≤ (6 : Int)) = true then 1 else 0 : Nat)) ix two, ?_⟩
          refine ⟨_, rfl, _, rfl, (· = a), _, vb, .non, db, .none, rfl, hb6.fr (FrO.same s69), .non, (fun es e => by rcases e with e | e <;> cases e), .inr (.inl ⟨rfl, fun HA sA => ?_⟩)⟩
          rw [(oddL_bad db mb).2]
          refine ⟨rfl, _, rfl, ?_⟩
          refine iteF ?_
          refine ⟨_, rfl, _, rfl, (· = a), _, _, .non, .int g, .none, rfl, .int g, .non, (fun es e => by rcases e with e | e <;> cases e), .inr (.inl ⟨rfl, fun HB sB => ?_⟩)⟩
          refine ⟨_, rfl, rfl, _, rfl, ?_⟩
          rw [show (!decide (V.str (if btwD 0 6 (.int g) = true then "let" else "number") = V.str (if btwD 0 6 (.int g) = true then "let" else "number"))) = false by simp]
          exact iteF ⟨s69.trans (sA.trans sB), _, _, _, rfl⟩
      · rintro σ H7 ⟨s7, o7', o8', o9', rfl⟩
        have dk7 := dk6.keep s7
        have hb7 := hb6.fr (FrO.same s7)
        have hpo7 := s7 _ _ hpo6
        have ro7 := ro6.fr (FrO.same s7)
        refine ⟨_, rfl, a, l, 5, rfl, dk7, by decide, by decide, fun jn H8 n0' n1' dk8 f8 _ => ?_⟩
        refine ⟨_, _, rfl, rfl, ?_⟩
        obtain ⟨n, en, n2, n6⟩ : ∃ n : Int, n = 2 + jn ∧ 2 ≤ n ∧ n ≤ 6 := ⟨_, rfl, by omega, by omega⟩
        have e2 : (fun (i j : Int) => V.int (i + j)) 2 jn = V.int n := by rw [en]
        rw [e2]
        clear en e2
        refine fun vR H9 s9 nR => ?_
        have dk9 := dk8.keep s9
        obtain ⟨pr, xr, rfl, npr, hpr, rr⟩ := dt_lst (nR (· = a) (deck_used dk8))
        have lxr : xr.length = 4 := rr.len
        have f79 : Fr a H7 H9 := f8.trans (Fr.same s9)
        refine ⟨_, rfl, a, l, 4, rfl, dk9, by decide, by decide, fun c HA c0 c1 dkA fA _ => ⟨_, rfl, by omega, by omega, fun D hD => ?_⟩⟩
        have nDa := deck_new dkA hD
        have nDl : D ≠ l := dkA.ne' hD
        have hprA := fA _ _ hpr npr
        have rrA : DtAll (NQ a D) HA xr rightL := DtAll.off hD (rr.fr (FrO.fr fA))
        refine lc_range (n := c.toNat) (fun j H' => ∃ (ys : List V) (ds : List PyData), H' D = some (.lst ys) ∧ DtAll (NQ a D) H' ys ds ∧ ds.length = j ∧ (∀ d ∈ ds, d ∈ rightL) ∧ Deck H' a l ∧ Fr a HA H') ⟨[], [], upd_same, .nil, rfl, (fun _ h => nomatch h), dkA.put nDa nDl, fun b o e _ => by rw [upd_ne (ne_of_none e hD)]; exact e⟩ ?_ ?_
        · rintro j HB hj ⟨ys, ds, eB, rB, lB, mB, dkB, fB⟩
          have lys : ys.length = j := by rw [rB.len, lB]
          refine ⟨rfl, _, rfl, _, rfl, a, l, 4, rfl, dkB, by decide, by decide, fun je HC e0 e1 dkC fC _ => ?_⟩
          have ge : xr[je.toNat]? = some (xr[je.toNat]'(by omega)) := List.getElem?_eq_getElem (by omega)
          have fAC : Fr a HA HC := fB.trans fC
          have foAC : FrO (NQ a D) HA HC := fun b o e nn => fAC b o e (fun z => nn (.inl z))
          obtain ⟨d1, at1, hd1⟩ := (rrA.fr foAC).get ge
          refine ⟨pr, _, _, _, rfl, rfl, SqL.of (fAC _ _ hprA npr), at_of (j := je.toNat) (by omega) ge, ?_⟩
          refine ⟨ys, fC _ _ eB nDa, small1000 (by omega), ?_⟩
          have foD : FrO (NQ a D) HC (upd HC D (.lst (ys ++ [xr[je.toNat]'(by omega)]))) := fun b o e nn => by rw [upd_ne (fun z => nn (.inr z))]; exact e
          have foBC : FrO (NQ a D) HB HC := fun b o e nn => fC b o e (fun z => nn (.inl z))
          refine ⟨_, ds ++ [d1], upd_same, ((rB.fr foBC).fr foD).append (.cons (hd1.fr foD) .nil), by rw [List.length_append, lB]; rfl, fun d hd => ?_, dkC.put nDa nDl, fun b o e nb => ?_⟩
          · rcases List.mem_append.mp hd with h | h
            · exact mB d h
            · rw [List.mem_singleton.mp h]; exact List.mem_of_getElem? at1
          · rw [upd_ne (ne_of_none e hD)]
            exact fAC b o e nb
        rintro HB ⟨ys, ds, eB, rB', lB, mB, dkB, fB⟩
        have rB : DtAll (· = a) HB ys ds := rB'.less fun p np => .inl np
        clear rB' rrA
        have lys : ys.length = ds.length := rB.len
        have few : ds.length ≤ 3 := by omega
        have f7B : Fr a H7 HB := f79.trans (fA.trans fB)
        have hprB := fB _ _ hprA npr
        have rrB : DtAll (· = a) HB xr rightL := (rr.fr (FrO.fr fA)).fr (FrO.fr fB)
        refine ⟨_, rfl, _, rfl, _, ys.length, rfl, .inl ⟨_, SqL.of eB, rfl⟩, _, _, rfl, rfl, a, l, _, rfl, dkB, by omega, by omega, fun m0 HC m1 m2 dkC fC _ => ?_⟩
        obtain ⟨m, rfl⟩ : ∃ m : Nat, m0 = (m : Int) := ⟨m0.toNat, by omega⟩
        refine ⟨_, rfl, _, rfl, a, l, n, rfl, dkC, by omega, n6, fun vt dt HD ft fine dkD fD => ?_⟩
        have f7D : Fr a H7 HD := f7B.trans (fC.trans fD)
        have eD := fD _ _ (fC _ _ eB nDa) nDa
        have rD := (rB.fr (FrO.fr fC)).fr (FrO.fr fD)
        have hprD := fD _ _ (fC _ _ hprB npr) npr
        have rrD := (rrB.fr (FrO.fr fC)).fr (FrO.fr fD)
        have tD : Dt (· = a) HD vt dt := ft (· = a) rfl (deck_used dkC)
        have usD : Used (· = a) HD := deck_used dkD
        refine ⟨_, rfl, _, rfl, _, rfl, D, ys, rfl, SqL.of eD, fun p1 hp1 => ?_⟩
        have sE : Same HD (upd HD p1 (.lst (cutV ys none (some (m : Int))))) := Same.new hp1
        have eE : (upd HD p1 (.lst (cutV ys none (some (m : Int))))) p1 = some (.lst (ys.take m)) := by rw [upd_same, cutTo]
        generalize upd HD p1 (.lst (cutV ys none (some (m : Int)))) = HE at *
        refine ⟨_, rfl, (by show 1 ≤ sizeLine; decide), fun p2 hp2 => ?_⟩
        have sF : Same HE (upd HE p2 (.lst [vt])) := Same.new hp2
        have eF : (upd HE p2 (.lst [vt])) p2 = some (.lst [vt]) := upd_same
        generalize upd HE p2 (.lst [vt]) = HF at *
        refine ⟨_, _, _, _, rfl, rfl, sF _ _ eE, eF, Nat.le_of_lt (small1000 (by rw [List.length_take, List.length_singleton]; omega)), fun p3 hp3 => ?_⟩
        have sG : Same HF (upd HF p3 (.lst (ys.take m ++ [vt]))) := Same.new hp3
        have eG : (upd HF p3 (.lst (ys.take m ++ [vt]))) p3 = some (.lst (ys.take m ++ [vt])) := upd_same
        generalize upd HF p3 (.lst (ys.take m ++ [vt])) = HG at *
        refine ⟨_, rfl, _, rfl, _, rfl, ?_⟩
        dsimp only [tNoPart]
        refine ⟨D, ys, rfl, SqL.of (sG _ _ (sF _ _ (sE _ _ eD))), fun p4 hp4 => ?_⟩
        have sH : Same HG (upd HG p4 (.lst (cutV ys (some (m : Int)) none))) := Same.new hp4
        have eH : (upd HG p4 (.lst (cutV ys (some (m : Int)) none))) p4 = some (.lst (ys.drop m)) := by rw [upd_same, cutFromD]
        generalize upd HG p4 (.lst (cutV ys (some (m : Int)) none)) = HH at *
        refine ⟨_, _, _, _, rfl, rfl, sH _ _ eG, eH, Nat.le_of_lt (small1000 (by rw [List.length_append, List.length_take, List.length_singleton, List.length_drop]; omega)), fun p5 hp5 => ?_⟩
        have sI : Same HH (upd HH p5 (.lst (ys.take m ++ [vt] ++ ys.drop m))) := Same.new hp5
        have eI : (upd HH p5 (.lst (ys.take m ++ [vt] ++ ys.drop m))) p5 = some (.lst (ys.take m ++ [vt] ++ ys.drop m)) := upd_same
        generalize upd HH p5 (.lst (ys.take m ++ [vt] ++ ys.drop m)) = HI' at *
        have sDI : Same HD HI' := sE.trans (sF.trans (sG.trans (sH.trans sI)))
        have dkI := dkD.keep sDI
        have tI := tD.fr (FrO.same sDI)
        have rI : DtAll (· = a) HI' (ys.take m ++ [vt] ++ ys.drop m) (ds.take m ++ [dt] ++ ds.drop m) := ((((rD.cut m).1).append (.cons tD .nil)).append (rD.cut m).2).fr (FrO.same sDI)
        have np5 : p5 ≠ a := fun e => by
          obtain ⟨ys', y⟩ := (dkD.keep (sE.trans (sF.trans (sG.trans sH)))).is
          rw [← e, hp5] at y
          cases y
        have spD : Dt (· = a) HI' (.ref p5) (.list (ds.take m ++ [dt] ++ ds.drop m)) := .lst np5 eI rI
        have rok := right_ok n2 n6
        have allB : (ds.take m ++ [dt] ++ ds.drop m).all (sayB n) = sayB n dt := by
          have q1 : (ds.take m).all (sayB n) = true := List.all_eq_true.mpr fun d hd => rok d (mB d (List.mem_of_mem_take hd))
          have q2 : (ds.drop m).all (sayB n) = true := List.all_eq_true.mpr fun d hd => rok d (mB d (List.mem_of_mem_drop hd))
          rw [List.all_append, List.all_append, q1, q2]
          simp
        have lsp : (ds.take m ++ [dt] ++ ds.drop m).length = ds.length + 1 := by
          rw [List.length_append, List.length_append, List.length_take, List.length_drop, List.length_singleton]
          omega
        have saysE : saysB n (.list (ds.take m ++ [dt] ++ ds.drop m)) = sayB n dt := by
          simp only [saysB]
          rw [allB, decide_eq_true (by omega), Bool.true_and]
        have wdS : Wd1 (.list (ds.take m ++ [dt] ++ ds.drop m)) := fun es he e me us eu => by
          rcases he with he | he <;> cases he
          rcases List.mem_append.mp me with h | h
          · rcases List.mem_append.mp h with h | h
            · exact right_short e (mB e (List.mem_of_mem_take h)) us eu
            · rw [List.mem_singleton.mp h] at eu
              subst eu
              exact Nat.le_trans (fine_len fine) (by decide)
          · exact right_short e (mB e (List.mem_of_mem_drop h)) us eu
        generalize ds.take m ++ [dt] ++ ds.drop m = dsp at *
        generalize ys.take m ++ [vt] ++ ys.drop m = ysp at *
        have f7I : Fr a H7 HI' := f7D.trans (Fr.same sDI)
        have hprI := sDI _ _ hprD
        have rrI := rrD.fr (FrO.same sDI)
        have hbI := hb7.fr (FrO.fr f7I)
        have hpoI := f7I _ _ hpo7 npo
        have roI := ro7.fr (FrO.fr f7I)
        refine ⟨fun σ' H' => Same HI' H' ∧ σ' = [some (.ref z), some (.ref a), some (.ref po), some (.int ((0 : Int) + (i : Int))), some vb, some (.int most), some (.int g), o7', o8', some (.str (if sayB n dt = true then "let" else "sayings")), some (.int n), some (.ref pr), some (.ref D), none, some (.int (m : Int)), some vt, some (.ref p5), o17, o18], ?_, ?_⟩
        · refine ⟨_, rfl, _, rfl, (· = a), n, vt, dt, rfl, tI, (fun us e => ?_), fun HJ sJ => ⟨_, rfl, ?_⟩⟩
          · subst e
            refine ⟨Nat.le_trans (fine_len fine) (by decide), fun e he es ee => ?_⟩
            subst ee
            exact wide_of (by decide) fine _ rfl _ he _ rfl
          · cases hB : sayB n dt with
            | true => exact iteT ⟨sJ, rfl⟩
            | false => exact iteF ⟨sJ, rfl⟩
        · rintro σ' HJ ⟨sJ, rfl⟩
          refine ⟨fun σ' H' => Same HI' H' ∧ ∃ w : Str, (sayB n dt = false → w = "sayings") ∧ (sayB n dt = true → w = "cells" ∨ w = "many" ∨ w = "let") ∧ σ' = [some (.ref z), some (.ref a), some (.ref po), some (.int ((0 : Int) + (i : Int))), some vb, some (.int most), some (.int g), o7', o8', some (.str (if sayB n dt = true then "let" else "sayings")), some (.int n), some (.ref pr), some (.ref D), none, some (.int (m : Int)), some vt, some (.ref p5), some (.str w), o18], ?_, ?_⟩
          · refine ⟨_, rfl, _, rfl, (· = a), 2, .int n, .ref p5, .int n, _, rfl, .int n, spD.fr (FrO.same sJ), wdS, ?_⟩
            cases hB : sayB n dt with
            | false =>
              refine .inr (.inr (.inr (.inl ⟨rfl, n, rfl, by omega, n6, saysE.trans hB, fun HK sK => ?_⟩)))
              exact ⟨sJ.trans sK, "sayings", (fun _ => rfl), (fun h => by cases h), rfl⟩
            | true =>
              obtain ⟨ss, h1, h2, h3⟩ := says_of (rI.fr (FrO.same sJ)) (allB.trans hB)
              refine .inr (.inr (.inr (.inr ⟨rfl, n, p5, ysp, ss, rfl, rfl, by omega, n6, ⟨sJ _ _ eI, h1, h3⟩, by omega, fun cs HK up perm sK => ?_⟩)))
              exact ⟨sJ.trans sK, keptWord (keptC cs ss), (fun h => by cases h), (fun _ => word_three _), rfl⟩
          · rintro σ' HK ⟨sK, w, w1, w2, rfl⟩
            refine ⟨fun σ' H' => Same HI' H' ∧ σ' = [some (.ref z), some (.ref a), some (.ref po), some (.int ((0 : Int) + (i : Int))), some vb, some (.int most), some (.int g), o7', o8', some (.str (if sayB n dt = true then "let" else "sayings")), some (.int n), some (.ref pr), some (.ref D), none, some (.int (m : Int)), some vt, some (.ref p5), some (.str w), o18], ?_, ?_⟩
            · cases hB : sayB n dt with
              | false =>
                obtain rfl := w1 hB
                refine ⟨_, rfl, rfl, _, rfl, ?_⟩
                refine iteT ?_
                refine ⟨_, rfl, rfl, _, rfl, ?_⟩
                refine iteF ?_
                refine ⟨_, rfl, rfl, _, rfl, ?_⟩
                refine iteF ?_
                exact iteF ⟨sK, rfl⟩
              | true =>
                refine ⟨_, rfl, rfl, _, rfl, ?_⟩
                refine iteF ?_
                refine ⟨_, rfl, rfl, _, rfl, ?_⟩
                refine iteT ?_
                refine ⟨_, rfl, (by show 3 ≤ sizeLine; decide), fun t7 ht7 => ?_⟩
                have s7' : Same HK (upd HK t7 (.tup [.str "let", .str "cells", .str "many"])) := Same.new ht7
                have e7 : (upd HK t7 (.tup [.str "let", .str "cells", .str "many"])) t7 = some (.tup [.str "let", .str "cells", .str "many"]) := upd_same
                generalize upd HK t7 (.tup [.str "let", .str "cells", .str "many"]) = HL at *
                refine ⟨t7, _, rfl, .inr (sqT e7), rfl, rfl, _, rfl, ?_⟩
                have ein : (!inV (.str w) [.str "let", .str "cells", .str "many"]) = false := by
                  rcases w2 hB with rfl | rfl | rfl <;> decide +kernel
                rw [ein]
                exact iteF ⟨sK.trans s7', rfl⟩
            · rintro σ' HL ⟨sL, rfl⟩
              have hbL := hbI.fr (FrO.same sL)
              have spL := spD.fr (FrO.same sL)
              have g3 : xr[3]? = some (xr[3]'(by omega)) := List.getElem?_eq_getElem (by omega)
              obtain ⟨d3, at3, hd3⟩ := (rrI.fr (FrO.same sL)).get g3
              obtain rfl : sayD (.thn [] []) = d3 := Option.some.inj at3
              generalize xr[3]'(by omega) = v3 at *
              refine ⟨_, rfl, _, rfl, (· = a), 2, vb, .ref p5, db, _, rfl, hbL, spL, wdS, .inr (.inr (.inl ⟨rfl, (oddL_bad db mb).2, fun HM sM => ?_⟩))⟩
              refine ⟨rfl, _, rfl, ?_⟩
              refine iteF ?_
              have sIM := sL.trans sM
              refine ⟨_, rfl, _, rfl, pr, _, _, _, rfl, rfl, SqL.of (sIM _ _ hprI), at_of (j := 3) rfl g3, (by show 1 ≤ sizeLine; decide), fun q1 hq1 => ?_⟩
              have sN : Same HM (upd HM q1 (.lst [v3])) := Same.new hq1
              have eN : (upd HM q1 (.lst [v3])) q1 = some (.lst [v3]) := upd_same
              generalize upd HM q1 (.lst [v3]) = HN at *
              refine ⟨q1, 21, [v3], rfl, rfl, eN, by decide, by decide, (by show 1 * 21 ≤ sizeLine; decide), fun q2 hq2 => ?_⟩
              rw [flat_rep]
              have sO : Same HN (upd HN q2 (.lst (List.replicate (21 : Int).toNat v3))) := Same.new hq2
              have eO : (upd HN q2 (.lst (List.replicate (21 : Int).toNat v3))) q2 = some (.lst (List.replicate 21 v3)) := upd_same
              generalize upd HN q2 (.lst (List.replicate (21 : Int).toNat v3)) = HO at *
              have nq2 : q2 ≠ a := fun e => by
                obtain ⟨ys', y⟩ := (dkI.keep (sIM.trans sN)).is
                rw [← e, hq2] at y
                cases y
              have sIO := sIM.trans (sN.trans sO)
              have d21 : Dt (· = a) HO (.ref q2) (.list (List.replicate 21 (sayD (.thn [] [])))) := .lst nq2 eO ((dts_rep hd3 21).fr (FrO.same (sM.trans (sN.trans sO))))
              have wdT : ∀ k : Nat, Wd1 (.list (List.replicate k (sayD (.thn [] [])))) := fun k es he e me us eu => by
                rcases he with he | he <;> cases he
                rw [(List.mem_replicate.mp me).2] at eu
                cases eu
                decide
              refine ⟨(· = a), 2, .int n, .ref q2, .int n, _, rfl, .int n, d21, wdT 21, .inr (.inr (.inr (.inl ⟨rfl, n, rfl, by omega, n6, ?_, fun HP sP => ?_⟩)))⟩
              · simp only [saysB]
                rw [decide_eq_false (by simp), Bool.false_and]
              refine ⟨rfl, _, rfl, ?_⟩
              refine iteF ?_
              have sIP := sIO.trans sP
              refine ⟨_, rfl, _, rfl, pr, _, _, _, rfl, rfl, SqL.of (sIP _ _ hprI), at_of (j := 3) rfl g3, (by show 1 ≤ sizeLine; decide), fun q3 hq3 => ?_⟩
              have sQ : Same HP (upd HP q3 (.lst [v3])) := Same.new hq3
              have eQ : (upd HP q3 (.lst [v3])) q3 = some (.lst [v3]) := upd_same
              generalize upd HP q3 (.lst [v3]) = HQ at *
              refine ⟨q3, 20, [v3], rfl, rfl, eQ, by decide, by decide, (by show 1 * 20 ≤ sizeLine; decide), fun q4 hq4 => ?_⟩
              rw [flat_rep]
              have sR : Same HQ (upd HQ q4 (.lst (List.replicate (20 : Int).toNat v3))) := Same.new hq4
              have eR : (upd HQ q4 (.lst (List.replicate (20 : Int).toNat v3))) q4 = some (.lst (List.replicate 20 v3)) := upd_same
              generalize upd HQ q4 (.lst (List.replicate (20 : Int).toNat v3)) = HR at *
              have sIR := sIP.trans (sQ.trans sR)
              have nq4 : q4 ≠ a := fun e => by
                obtain ⟨ys', y⟩ := (dkI.keep (sIP.trans sQ)).is
                rw [← e, hq4] at y
                cases y
              have at3' : SayAt HR v3 (.thn [] []) := sayAt_of (hd3.fr (FrO.same (sM.trans ((sN.trans sO).trans (sP.trans (sQ.trans sR))))))
              have d20 : Dt (· = a) HR (.ref q4) (.list (List.replicate 20 (sayD (.thn [] [])))) := .lst nq4 eR ((dts_rep hd3 20).fr (FrO.same (sM.trans ((sN.trans sO).trans (sP.trans (sQ.trans sR))))))
              refine ⟨(· = a), 2, .int n, .ref q4, .int n, _, rfl, .int n, d20, wdT 20, .inr (.inr (.inr (.inr ⟨rfl, n, q4, List.replicate 20 v3, List.replicate 20 (.thn [] []), rfl, rfl, by omega, n6, ⟨eR, says_rep at3' 20, fun s hs mm hm => ?_⟩, by simp, fun cs HS up perm sS => ?_⟩)))⟩
              · rw [(List.mem_replicate.mp hs).2] at hm
                have : mm = [] := by
                  rcases List.mem_cons.mp hm with h | h
                  · exact h
                  · exact List.mem_singleton.mp h
                subst this
                exact ⟨.nil, fun x hx => absurd hx (by simp), fun x hx => absurd hx (by simp)⟩
              rw [kept_then, word_all n2 n6 perm]
              refine ⟨(by show 2 ≤ sizeLine; decide), fun q5 hq5 => ?_⟩
              have sT : Same HS (upd HS q5 (.lst [.str "let", .str "many"])) := Same.new hq5
              have eT : (upd HS q5 (.lst [.str "let", .str "many"])) q5 = some (.lst [.str "let", .str "many"]) := upd_same
              generalize upd HS q5 (.lst [.str "let", .str "many"]) = HT' at *
              refine ⟨_, rfl, _, _, rfl, rfl, .inr ⟨_, rfl, ?_⟩⟩
              have two : ([.str "let", .str "many"] : List V)[(if decide ((4 : Int) < n) = true then 1 else 0 : Nat)]? = some (.str (if (4 : Int) < n then "many" else "let")) := by
                by_cases h : (4 : Int) < n
                · rw [if_pos h, decide_eq_true h]; rfl
                · rw [if_neg h, decide_eq_false h]; rfl
              have ix : (if decide ((4 : Int) < n) = true then (1 : Int) else 0) = (((if decide ((4 : Int) < n) = true then 1 else 0 : Nat)) : Int) := by split <;> rfl
              refine ⟨q5, _, _, _, rfl, rfl, SqL.of eT, at_of (j := (if decide ((4 : Int) < n) = true then 1 else 0 : Nat)) ix two, ?_⟩
              refine ⟨rfl, _, rfl, ?_⟩
              refine ite2 (fun z => ?_) (fun _ => ?_)
              · exfalso
                simp at z
              have sIT := sIR.trans (sS.trans sT)
              have dkT := dkI.keep sIT
              refine fun vQ HU sU nU => ?_
              have dkU := dkT.keep sU
              obtain ⟨pq, xq, rfl, npq, hpq, rq⟩ := dt_lst (nU (· = a) (deck_used dkT))
              have lxq : xq.length = 7 := rq.len
              refine ⟨_, rfl, a, l, 7, rfl, dkU, by decide, by decide, fun jo HV o0 o1 dkV fV _ => ?_⟩
              have go : xq[jo.toNat]? = some (xq[jo.toNat]'(by omega)) := List.getElem?_eq_getElem (by omega)
              obtain ⟨dq, atq, hq⟩ := (rq.fr (FrO.fr fV)).get go
              have mq := List.mem_of_getElem? atq
              generalize xq[jo.toNat]'(by omega) = vq at *
              refine ⟨pq, _, _, _, rfl, rfl, SqL.of (fV _ _ hpq npq), at_of (j := jo.toNat) (by omega) go, ?_⟩
              refine ⟨_, rfl, _, rfl, (· = a), 2, .int n, vq, .int n, dq, rfl, .int n, hq, other_short dq mq, .inr (.inr (.inr (.inl ⟨rfl, n, rfl, by omega, n6, other_bad n dq mq, fun HW sW => ?_⟩)))⟩
              refine ⟨rfl, _, rfl, ?_⟩
              refine iteF ?_
              refine ⟨_, rfl, fun vX HX sX nX => ?_⟩
              have dkW := dkV.keep sW
              have hX := nX (· = a) (deck_used dkW)
              obtain ⟨px, xx, rfl, npx, hpx, rx⟩ := dt_lst hX
              obtain ⟨x1, rfl, h1⟩ : ∃ x1, xx = [x1] ∧ SayAt HX x1 (.som []) := by
                cases rx with
                | cons h r => cases r; exact ⟨_, rfl, sayAt_of h⟩
              refine ⟨(· = a), 2, .int n, .ref px, .int n, _, rfl, .int n, hX, (fun es he e me us eu => ?_), .inr (.inr (.inr (.inr ⟨rfl, n, px, [x1], [.som []], rfl, rfl, by omega, n6, ⟨hpx, .cons h1 .nil, fun s hs mm hm => ?_⟩, by decide, fun cs HY up perm sY => ?_⟩)))⟩
              · rcases he with he | he <;> cases he
                rw [List.mem_singleton.mp me] at eu
                cases eu
                decide
              · rw [List.mem_singleton.mp hs] at hm
                rw [List.mem_singleton.mp hm]
                exact ⟨.nil, fun x hx => absurd hx (by simp), fun x hx => absurd hx (by simp)⟩
              rw [kept_some]
              refine ⟨rfl, _, rfl, ?_⟩
              refine iteF ?_
              have sVY := sW.trans (sX.trans sY)
              have dkY := dkV.keep sVY
              refine ⟨_, rfl, fun vZ HZ sZ nZ => ?_⟩
              have hZ := nZ (· = a) (deck_used dkY)
              obtain ⟨pz, xz, rfl, npz, hpz, rz⟩ := dt_lst hZ
              obtain ⟨z1, rfl, h2⟩ : ∃ z1, xz = [z1] ∧ SayAt HZ z1 (.nev []) := by
                cases rz with
                | cons h r => cases r; exact ⟨_, rfl, sayAt_of h⟩
              refine ⟨(· = a), 2, .int most, .ref pz, .int most, _, rfl, .int most, hZ, (fun es he e me us eu => ?_), .inr (.inr (.inr (.inr ⟨rfl, most, pz, [z1], [.nev []], rfl, rfl, by omega, by omega, ⟨hpz, .cons h2 .nil, fun s hs mm hm => ?_⟩, by decide, fun cs H' up perm s' => ?_⟩)))⟩
              · rcases he with he | he <;> cases he
                rw [List.mem_singleton.mp me] at eu
                cases eu
                decide
              · rw [List.mem_singleton.mp hs] at hm
                rw [List.mem_singleton.mp hm]
                exact ⟨.nil, fun x hx => absurd hx (by simp), fun x hx => absurd hx (by simp)⟩
              rw [kept_never]
              refine ⟨rfl, _, rfl, ?_⟩
              have fIV : Fr a HI' HV := (Fr.same (sIT.trans sU)).trans fV
              have sVe : Same HV H' := sVY.trans (sZ.trans s')
              exact iteF ⟨⟨_, _, _, _, _, _, _, _, _, _, _, _, _, _, _, rfl⟩, dkV.keep sVe, sVe _ _ (fIV _ _ hpoI npo), (roI.fr (FrO.fr fIV)).fr (FrO.same sVe)⟩
    · rintro σ H2 ⟨_, dk2⟩
      exact k H2
end
end Xci

namespace Xci
open PySem L2
set_option maxHeartbeats 8000000 in
theorem all_mk {l : PySem.W.OpenLaw} {w : World} {K : PySem.W.Frag} {h : Heap} {mg : Str → Option Value} {fa f0 f1 f2 f3 f4 f5 f6 f7 f8 f9 f10 f11 f12 f13 f14 f15 f16 f17 f18 f19 f20 f21 f22 f23 f24 CF CFormError CNoNumber fNoNumber ccNoNumber cdaNoNumber CNoSayings fNoSayings ccNoSayings cdaNoSayings CNoCells fNoCells ccNoCells cdaNoCells CTooMany fTooMany ccTooMany cdaTooMany aSAYINGS : Addr} (X : K.In h) (G : h.Ns mainGlobals mg) (hfa : mg "law" = some (.ref fa))
    {od0 an0 od1 an1 od2 an2 od3 an3 od4 an4 od5 an5 od6 an6 od7 an7 od8 an8 od9 an9 od10 an10 od11 an11 od12 an12 od13 an13 od14 an14 od15 an15 od16 an16 od17 an17 od18 an18 od19 an19 od20 an20 od21 an21 od22 an22 od23 an23 od24 an24 : Option Addr} {sl0 sl1 sl2 sl3 sl4 sl5 sl6 sl7 sl8 sl9 sl10 sl11 sl12 sl13 sl14 sl15 sl16 sl17 sl18 sl19 sl20 sl21 sl22 sl23 sl24 : Array (Option Value)} {oc0 kV0 dc0 pm0 cd0 ct0 oc1 kV1 dc1 pm1 cd1 ct1 oc2 kV2 dc2 pm2 cd2 ct2 oc3 kV3 dc3 pm3 cd3 ct3 oc4 kV4 dc4 pm4 cd4 ct4 oc5 kV5 dc5 pm5 cd5 ct5 oc6 kV6 dc6 pm6 cd6 ct6 oc7 kV7 dc7 pm7 cd7 ct7 oc8 kV8 dc8 pm8 cd8 ct8 oc9 kV9 dc9 pm9 cd9 ct9 oc10 kV10 dc10 pm10 cd10 ct10 oc11 kV11 dc11 pm11 cd11 ct11 oc12 kV12 dc12 pm12 cd12 ct12 oc13 kV13 dc13 pm13 cd13 ct13 oc14 kV14 dc14 pm14 cd14 ct14 oc15 kV15 dc15 pm15 cd15 ct15 oc16 kV16 dc16 pm16 cd16 ct16 oc17 kV17 dc17 pm17 cd17 ct17 oc18 kV18 dc18 pm18 cd18 ct18 oc19 kV19 dc19 pm19 cd19 ct19 oc20 kV20 dc20 pm20 cd20 ct20 oc21 kV21 dc21 pm21 cd21 ct21 oc22 kV22 dc22 pm22 cd22 ct22 oc23 kV23 dc23 pm23 cd23 ct23 oc24 kV24 dc24 pm24 cd24 ct24 : Value} {u0 u1 u2 u3 : Tok}
    {nmNoNumber qnNoNumber : Str} {NNoNumber : Addr} {bsNoNumber subNoNumber : List Value} {snNoNumber : List Str} {abNoNumber : Bool} {colNoNumber : Option Bool} {ddNoNumber odNoNumber anNoNumber odANoNumber odBNoNumber : Option Addr} {maNoNumber mbNoNumber mcNoNumber mdNoNumber meNoNumber : Option Value} {ocNoNumber kVNoNumber docNoNumber pmNoNumber ctNoNumber ocANoNumber ocBNoNumber : Value} {slNoNumber slANoNumber slBNoNumber : Array (Option Value)} {vsNoNumber : Array Value} {tfNoNumber : Tok} {fileNoNumber : Str} {nmNoSayings qnNoSayings : Str} {NNoSayings : Addr} {bsNoSayings subNoSayings : List Value} {snNoSayings : List Str} {abNoSayings : Bool} {colNoSayings : Option Bool} {ddNoSayings odNoSayings anNoSayings odANoSayings odBNoSayings : Option Addr} {maNoSayings mbNoSayings mcNoSayings mdNoSayings meNoSayings : Option Value} {ocNoSayings kVNoSayings docNoSayings pmNoSayings ctNoSayings ocANoSayings ocBNoSayings : Value} {slNoSayings slANoSayings slBNoSayings : Array (Option Value)} {vsNoSayings : Array Value} {tfNoSayings : Tok} {fileNoSayings : Str} {nmNoCells qnNoCells : Str} {NNoCells : Addr} {bsNoCells subNoCells : List Value} {snNoCells : List Str} {abNoCells : Bool} {colNoCells : Option Bool} {ddNoCells odNoCells anNoCells odANoCells odBNoCells : Option Addr} {maNoCells mbNoCells mcNoCells mdNoCells meNoCells : Option Value} {ocNoCells kVNoCells docNoCells pmNoCells ctNoCells ocANoCells ocBNoCells : Value} {slNoCells slANoCells slBNoCells : Array (Option Value)} {vsNoCells : Array Value} {tfNoCells : Tok} {fileNoCells : Str} {nmTooMany qnTooMany : Str} {NTooMany : Addr} {bsTooMany subTooMany : List Value} {snTooMany : List Str} {abTooMany : Bool} {colTooMany : Option Bool} {ddTooMany odTooMany anTooMany odATooMany odBTooMany : Option Addr} {maTooMany mbTooMany mcTooMany mdTooMany meTooMany : Option Value} {ocTooMany kVTooMany docTooMany pmTooMany ctTooMany ocATooMany ocBTooMany : Value} {slTooMany slATooMany slBTooMany : Array (Option Value)} {vsTooMany : Array Value} {tfTooMany : Tok} {fileTooMany : Str} {enSAYINGS : Nat} {hSAYINGS_never hSAYINGS_some hSAYINGS_then : Int} {kSAYINGS_never kSAYINGS_some kSAYINGS_then : Tok} {tSAYINGS_never : Tok} {tSAYINGS_some : Tok} {tSAYINGS_then : Tok}
    (a0 : PySem.W.nsIn K mainGlobals "is_integer" = some (some (.ref f0))) (l0 : K.lookup f0 = some ⟨oc0, od0, .func (PySem.W.fnOf "is_integer" "is_integer" (defArgs sIsInteger) (defBody sIsInteger) (defScope sIsInteger) .none kV0 dc0 pm0 an0 cd0 ct0), sl0⟩) (c0 : PySem.W.codeIn K cd0 "is_integer" = true) (k0 : PySem.W.keepIn K (.ref f0) = true)
    (a1 : PySem.W.nsIn K mainGlobals "is_between" = some (some (.ref f1))) (l1 : K.lookup f1 = some ⟨oc1, od1, .func (PySem.W.fnOf "is_between" "is_between" (defArgs sIsBetween) (defBody sIsBetween) (defScope sIsBetween) .none kV1 dc1 pm1 an1 cd1 ct1), sl1⟩) (c1 : PySem.W.codeIn K cd1 "is_between" = true) (k1 : PySem.W.keepIn K (.ref f1) = true)
    (a2 : PySem.W.nsIn K mainGlobals "is_cell" = some (some (.ref f2))) (l2 : K.lookup f2 = some ⟨oc2, od2, .func (PySem.W.fnOf "is_cell" "is_cell" (defArgs sIsCell) (defBody sIsCell) (defScope sIsCell) .none kV2 dc2 pm2 an2 cd2 ct2), sl2⟩) (c2 : PySem.W.codeIn K cd2 "is_cell" = true) (k2 : PySem.W.keepIn K (.ref f2) = true)
    (a3 : PySem.W.nsIn K mainGlobals "lies_within" = some (some (.ref f3))) (l3 : K.lookup f3 = some ⟨oc3, od3, .func (PySem.W.fnOf "lies_within" "lies_within" (defArgs sLiesWithin) (defBody sLiesWithin) (defScope sLiesWithin) .none kV3 dc3 pm3 an3 cd3 ct3), sl3⟩) (c3 : PySem.W.codeIn K cd3 "lies_within" = true) (k3 : PySem.W.keepIn K (.ref f3) = true)
    (a4 : PySem.W.nsIn K mainGlobals "all_within" = some (some (.ref f4))) (l4 : K.lookup f4 = some ⟨oc4, od4, .func (PySem.W.fnOf "all_within" "all_within" (defArgs sAllWithin) (defBody sAllWithin) (defScope sAllWithin) .none kV4 dc4 pm4 an4 cd4 ct4), sl4⟩) (c4 : PySem.W.codeIn K cd4 "all_within" = true) (k4 : PySem.W.keepIn K (.ref f4) = true)
    (a5 : PySem.W.nsIn K mainGlobals "all_cells" = some (some (.ref f5))) (l5 : K.lookup f5 = some ⟨oc5, od5, .func (PySem.W.fnOf "all_cells" "all_cells" (defArgs sAllCells) (defBody sAllCells) (defScope sAllCells) .none kV5 dc5 pm5 an5 cd5 ct5), sl5⟩) (c5 : PySem.W.codeIn K cd5 "all_cells" = true) (k5 : PySem.W.keepIn K (.ref f5) = true)
    (a6 : PySem.W.nsIn K mainGlobals "_are_cells" = some (some (.ref f6))) (l6 : K.lookup f6 = some ⟨oc6, od6, .func (PySem.W.fnOf "_are_cells" "_are_cells" (defArgs sAreCells) (defBody sAreCells) (defScope sAreCells) .none kV6 dc6 pm6 an6 cd6 ct6), sl6⟩) (c6 : PySem.W.codeIn K cd6 "_are_cells" = true) (k6 : PySem.W.keepIn K (.ref f6) = true)
    (a7 : PySem.W.nsIn K mainGlobals "whole" = some (some (.ref f7))) (l7 : K.lookup f7 = some ⟨oc7, od7, .func (PySem.W.fnOf "whole" "whole" (defArgs sWhole) (defBody sWhole) (defScope sWhole) .none kV7 dc7 pm7 an7 cd7 ct7), sl7⟩) (c7 : PySem.W.codeIn K cd7 "whole" = true) (k7 : PySem.W.keepIn K (.ref f7) = true)
    (a8 : PySem.W.nsIn K mainGlobals "line" = some (some (.ref f8))) (l8 : K.lookup f8 = some ⟨oc8, od8, .func (PySem.W.fnOf "line" "line" (defArgs sLine) (defBody sLine) (defScope sLine) .none kV8 dc8 pm8 an8 cd8 ct8), sl8⟩) (c8 : PySem.W.codeIn K cd8 "line" = true) (k8 : PySem.W.keepIn K (.ref f8) = true)
    (a9 : PySem.W.nsIn K mainGlobals "said" = some (some (.ref f9))) (l9 : K.lookup f9 = some ⟨oc9, od9, .func (PySem.W.fnOf "said" "said" (defArgs sSaid) (defBody sSaid) (defScope sSaid) .none kV9 dc9 pm9 an9 cd9 ct9), sl9⟩) (c9 : PySem.W.codeIn K cd9 "said" = true) (k9 : PySem.W.keepIn K (.ref f9) = true)
    (a10 : PySem.W.nsIn K mainGlobals "_are_sayings" = some (some (.ref f10))) (l10 : K.lookup f10 = some ⟨oc10, od10, .func (PySem.W.fnOf "_are_sayings" "_are_sayings" (defArgs sAreSayings) (defBody sAreSayings) (defScope sAreSayings) .none kV10 dc10 pm10 an10 cd10 ct10), sl10⟩) (c10 : PySem.W.codeIn K cd10 "_are_sayings" = true) (k10 : PySem.W.keepIn K (.ref f10) = true)
    (a11 : PySem.W.nsIn K mainGlobals "_is_saying" = some (some (.ref f11))) (l11 : K.lookup f11 = some ⟨oc11, od11, .func (PySem.W.fnOf "_is_saying" "_is_saying" (defArgs sIsSaying) (defBody sIsSaying) (defScope sIsSaying) .none kV11 dc11 pm11 an11 cd11 ct11), sl11⟩) (c11 : PySem.W.codeIn K cd11 "_is_saying" = true) (k11 : PySem.W.keepIn K (.ref f11) = true)
    (a12 : PySem.W.nsIn K mainGlobals "_keeps_all" = some (some (.ref f12))) (l12 : K.lookup f12 = some ⟨oc12, od12, .func (PySem.W.fnOf "_keeps_all" "_keeps_all" (defArgs sKeepsAll) (defBody sKeepsAll) (defScope sKeepsAll) .none kV12 dc12 pm12 an12 cd12 ct12), sl12⟩) (c12 : PySem.W.codeIn K cd12 "_keeps_all" = true) (k12 : PySem.W.keepIn K (.ref f12) = true)
    (a13 : PySem.W.nsIn K mainGlobals "_keeps" = some (some (.ref f13))) (l13 : K.lookup f13 = some ⟨oc13, od13, .func (PySem.W.fnOf "_keeps" "_keeps" (defArgs sKeeps) (defBody sKeeps) (defScope sKeeps) .none kV13 dc13 pm13 an13 cd13 ct13), sl13⟩) (c13 : PySem.W.codeIn K cd13 "_keeps" = true) (k13 : PySem.W.keepIn K (.ref f13) = true)
    (a14 : PySem.W.nsIn K mainGlobals "_law_deck" = some (some (.ref f14))) (l14 : K.lookup f14 = some ⟨oc14, od14, .func (PySem.W.fnOf "_law_deck" "_law_deck" (defArgs sLawDeck) (defBody sLawDeck) (defScope sLawDeck) .none kV14 dc14 pm14 an14 cd14 ct14), sl14⟩) (c14 : PySem.W.codeIn K cd14 "_law_deck" = true) (k14 : PySem.W.keepIn K (.ref f14) = true)
    (a15 : PySem.W.nsIn K mainGlobals "_law_take" = some (some (.ref f15))) (l15 : K.lookup f15 = some ⟨oc15, od15, .func (PySem.W.fnOf "_law_take" "_law_take" (defArgs sLawTake) (defBody sLawTake) (defScope sLawTake) .none kV15 dc15 pm15 an15 cd15 ct15), sl15⟩) (c15 : PySem.W.codeIn K cd15 "_law_take" = true) (k15 : PySem.W.keepIn K (.ref f15) = true)
    (a16 : PySem.W.nsIn K mainGlobals "_law_is_int" = some (some (.ref f16))) (l16 : K.lookup f16 = some ⟨oc16, od16, .func (PySem.W.fnOf "_law_is_int" "_law_is_int" (defArgs sLawIsInt) (defBody sLawIsInt) (defScope sLawIsInt) .none kV16 dc16 pm16 an16 cd16 ct16), sl16⟩) (c16 : PySem.W.codeIn K cd16 "_law_is_int" = true) (k16 : PySem.W.keepIn K (.ref f16) = true)
    (a17 : PySem.W.nsIn K mainGlobals "_law_are_marks" = some (some (.ref f17))) (l17 : K.lookup f17 = some ⟨oc17, od17, .func (PySem.W.fnOf "_law_are_marks" "_law_are_marks" (defArgs sLawAreMarks) (defBody sLawAreMarks) (defScope sLawAreMarks) .none kV17 dc17 pm17 an17 cd17 ct17), sl17⟩) (c17 : PySem.W.codeIn K cd17 "_law_are_marks" = true) (k17 : PySem.W.keepIn K (.ref f17) = true)
    (a18 : PySem.W.nsIn K mainGlobals "_law_deep" = some (some (.ref f18))) (l18 : K.lookup f18 = some ⟨oc18, od18, .func (PySem.W.fnOf "_law_deep" "_law_deep" (defArgs sLawDeep) (defBody sLawDeep) (defScope sLawDeep) .none kV18 dc18 pm18 an18 cd18 ct18), sl18⟩) (c18 : PySem.W.codeIn K cd18 "_law_deep" = true) (k18 : PySem.W.keepIn K (.ref f18) = true)
    (a19 : PySem.W.nsIn K mainGlobals "_law_odd" = some (some (.ref f19))) (l19 : K.lookup f19 = some ⟨oc19, od19, .func (PySem.W.fnOf "_law_odd" "_law_odd" (defArgs sLawOdd) (defBody sLawOdd) (defScope sLawOdd) .none kV19 dc19 pm19 an19 cd19 ct19), sl19⟩) (c19 : PySem.W.codeIn K cd19 "_law_odd" = true) (k19 : PySem.W.keepIn K (.ref f19) = true)
    (a20 : PySem.W.nsIn K mainGlobals "_law_told" = some (some (.ref f20))) (l20 : K.lookup f20 = some ⟨oc20, od20, .func (PySem.W.fnOf "_law_told" "_law_told" (defArgs sLawTold) (defBody sLawTold) (defScope sLawTold) .none kV20 dc20 pm20 an20 cd20 ct20), sl20⟩) (c20 : PySem.W.codeIn K cd20 "_law_told" = true) (k20 : PySem.W.keepIn K (.ref f20) = true)
    (a21 : PySem.W.nsIn K mainGlobals "_law_bad_saying" = some (some (.ref f21))) (l21 : K.lookup f21 = some ⟨oc21, od21, .func (PySem.W.fnOf "_law_bad_saying" "_law_bad_saying" (defArgs sLawBadSaying) (defBody sLawBadSaying) (defScope sLawBadSaying) .none kV21 dc21 pm21 an21 cd21 ct21), sl21⟩) (c21 : PySem.W.codeIn K cd21 "_law_bad_saying" = true) (k21 : PySem.W.keepIn K (.ref f21) = true)
    (a22 : PySem.W.nsIn K mainGlobals "_law_is_saying" = some (some (.ref f22))) (l22 : K.lookup f22 = some ⟨oc22, od22, .func (PySem.W.fnOf "_law_is_saying" "_law_is_saying" (defArgs sLawIsSaying) (defBody sLawIsSaying) (defScope sLawIsSaying) .none kV22 dc22 pm22 an22 cd22 ct22), sl22⟩) (c22 : PySem.W.codeIn K cd22 "_law_is_saying" = true) (k22 : PySem.W.keepIn K (.ref f22) = true)
    (a23 : PySem.W.nsIn K mainGlobals "law" = some (some (.ref f23))) (l23 : K.lookup f23 = some ⟨oc23, od23, .func (PySem.W.fnOf "law" "law" (defArgs sLaw) (defBody sLaw) (defScope sLaw) .none kV23 dc23 pm23 an23 cd23 ct23), sl23⟩) (c23 : PySem.W.codeIn K cd23 "law" = true) (k23 : PySem.W.keepIn K (.ref f23) = true)
    (a24 : PySem.W.findIn K (.ref CF) "__init__" = some (some (.ref f24))) (i24 : PySem.W.isFn K (.ref f24) = true) (l24 : K.lookup f24 = some ⟨oc24, od24, .func (PySem.W.fnOf "__init__" "Family.__init__" (defArgs sFamilyInit) (defBody sFamilyInit) (defScope sFamilyInit) .none kV24 dc24 pm24 an24 cd24 ct24), sl24⟩) (c24 : PySem.W.codeIn K cd24 "Family.__init__" = true) (k24 : PySem.W.keepIn K (.ref f24) = true)
    (aCCF : PySem.W.nsIn K mainGlobals "Family" = some (some (.ref CF))) (pgCCF : PySem.W.plainGet K CF Str.empty = true) (hdCCF : PySem.W.hasDictIn K CF = true) (poCCF : PySem.W.plainOver K CF = true) (saCCF : PySem.W.findIn K (.ref CF) "__setattr__" = some (some (.builtin "object.__setattr__"))) (mkCCF : PySem.W.makesIn K CF = true) (kcCCF : PySem.W.keepIn K (.ref CF) = true)
    (nCF_many : PySem.W.findIn K (.ref CF) "many" = some none)
    (nCF_cells : PySem.W.findIn K (.ref CF) "cells" = some none)
    (aCFormError : PySem.W.nsIn K mainGlobals "FormError" = some (some (.ref CFormError)))
    (aCNoNumber : PySem.W.nsIn K mainGlobals "NoNumber" = some (some (.ref CNoNumber)))
    (xlNoNumber : K.lookup CNoNumber = some (excClassObj nmNoNumber qnNoNumber CNoNumber NNoNumber bsNoNumber [.ref CFormError, .type "ValueError", .type "Exception", .type "BaseException", .type "object"] true snNoNumber subNoNumber abNoNumber colNoNumber ddNoNumber maNoNumber mbNoNumber mcNoNumber mdNoNumber meNoNumber "ValueError.__new__"))
    (saNoNumber : PySem.W.findIn K (.ref CNoNumber) "__setattr__" = some (some (.builtin "object.__setattr__")))
    (exNoNumber : PySem.W.subIn K (.ref CNoNumber) (.type "BaseException") = some true)
    (tyNoNumber : PySem.W.typeIn K (.ref CNoNumber) = some (.type "type"))
    (kpNoNumber : PySem.W.keepIn K (.ref CNoNumber) = true)
    (fiNoNumber : PySem.W.findIn K (.ref CNoNumber) "__init__" = some (some (.ref fNoNumber)))
    (ftNoNumber : PySem.W.typeIn K (.ref fNoNumber) = some (.type "function"))
    (flNoNumber : K.lookup fNoNumber = some ⟨ocNoNumber, odNoNumber, .func (PySem.W.fnX "__init__" "NoNumber.__init__" (defArgs sNoNumberInit) (defBody sNoNumberInit) (defScope sNoNumberInit) [(("__class__" : Str), ccNoNumber)] .none kVNoNumber docNoNumber pmNoNumber anNoNumber (.ref cdaNoNumber) ctNoNumber), slNoNumber⟩)
    (cdNoNumber : PySem.W.codeIn K (.ref cdaNoNumber) "NoNumber.__init__" = true)
    (coNoNumber : K.lookup cdaNoNumber = some ⟨ocANoNumber, odANoNumber, .fields vsNoNumber, slANoNumber⟩)
    (cvNoNumber : vsNoNumber[2]? = some (.str fileNoNumber tfNoNumber))
    (cfNoNumber : ((l.prog.main.file : Str) == fileNoNumber) = true)
    (ceNoNumber : K.lookup ccNoNumber = some ⟨ocBNoNumber, odBNoNumber, .cell (some (.ref CNoNumber)), slBNoNumber⟩)
    (mrNoNumber : PySem.W.mroIn K CNoNumber (.ref CNoNumber) = some true)
    (suNoNumber : PySem.W.ks_superIn K CNoNumber CNoNumber "__init__" = some (some (.builtin "ValueError.__init__")))
    (veNoNumber : PySem.W.subIn K (.ref CNoNumber) (.type "ValueError") = some true)
    (isNoNumber : PySem.W.isClsIn K CNoNumber = true)
    (gaNoNumber : PySem.W.findIn K (.ref CNoNumber) "__getattribute__" = some (some (.builtin "BaseException.__getattribute__")))
    (ggNoNumber : PySem.W.findIn K (.ref CNoNumber) "__getattr__" = some none)
    (hdNoNumber : PySem.W.hasDictIn K CNoNumber = true)
    (aCNoSayings : PySem.W.nsIn K mainGlobals "NoSayings" = some (some (.ref CNoSayings)))
    (xlNoSayings : K.lookup CNoSayings = some (excClassObj nmNoSayings qnNoSayings CNoSayings NNoSayings bsNoSayings [.ref CFormError, .type "ValueError", .type "Exception", .type "BaseException", .type "object"] true snNoSayings subNoSayings abNoSayings colNoSayings ddNoSayings maNoSayings mbNoSayings mcNoSayings mdNoSayings meNoSayings "ValueError.__new__"))
    (saNoSayings : PySem.W.findIn K (.ref CNoSayings) "__setattr__" = some (some (.builtin "object.__setattr__")))
    (exNoSayings : PySem.W.subIn K (.ref CNoSayings) (.type "BaseException") = some true)
    (tyNoSayings : PySem.W.typeIn K (.ref CNoSayings) = some (.type "type"))
    (kpNoSayings : PySem.W.keepIn K (.ref CNoSayings) = true)
    (fiNoSayings : PySem.W.findIn K (.ref CNoSayings) "__init__" = some (some (.ref fNoSayings)))
    (ftNoSayings : PySem.W.typeIn K (.ref fNoSayings) = some (.type "function"))
    (flNoSayings : K.lookup fNoSayings = some ⟨ocNoSayings, odNoSayings, .func (PySem.W.fnX "__init__" "NoSayings.__init__" (defArgs sNoSayingsInit) (defBody sNoSayingsInit) (defScope sNoSayingsInit) [(("__class__" : Str), ccNoSayings)] .none kVNoSayings docNoSayings pmNoSayings anNoSayings (.ref cdaNoSayings) ctNoSayings), slNoSayings⟩)
    (cdNoSayings : PySem.W.codeIn K (.ref cdaNoSayings) "NoSayings.__init__" = true)
    (coNoSayings : K.lookup cdaNoSayings = some ⟨ocANoSayings, odANoSayings, .fields vsNoSayings, slANoSayings⟩)
    (cvNoSayings : vsNoSayings[2]? = some (.str fileNoSayings tfNoSayings))
    (cfNoSayings : ((l.prog.main.file : Str) == fileNoSayings) = true)
    (ceNoSayings : K.lookup ccNoSayings = some ⟨ocBNoSayings, odBNoSayings, .cell (some (.ref CNoSayings)), slBNoSayings⟩)
    (mrNoSayings : PySem.W.mroIn K CNoSayings (.ref CNoSayings) = some true)
    (suNoSayings : PySem.W.ks_superIn K CNoSayings CNoSayings "__init__" = some (some (.builtin "ValueError.__init__")))
    (veNoSayings : PySem.W.subIn K (.ref CNoSayings) (.type "ValueError") = some true)
    (isNoSayings : PySem.W.isClsIn K CNoSayings = true)
    (gaNoSayings : PySem.W.findIn K (.ref CNoSayings) "__getattribute__" = some (some (.builtin "BaseException.__getattribute__")))
    (ggNoSayings : PySem.W.findIn K (.ref CNoSayings) "__getattr__" = some none)
    (hdNoSayings : PySem.W.hasDictIn K CNoSayings = true)
    (aCNoCells : PySem.W.nsIn K mainGlobals "NoCells" = some (some (.ref CNoCells)))
    (xlNoCells : K.lookup CNoCells = some (excClassObj nmNoCells qnNoCells CNoCells NNoCells bsNoCells [.ref CFormError, .type "ValueError", .type "Exception", .type "BaseException", .type "object"] true snNoCells subNoCells abNoCells colNoCells ddNoCells maNoCells mbNoCells mcNoCells mdNoCells meNoCells "ValueError.__new__"))
    (saNoCells : PySem.W.findIn K (.ref CNoCells) "__setattr__" = some (some (.builtin "object.__setattr__")))
    (exNoCells : PySem.W.subIn K (.ref CNoCells) (.type "BaseException") = some true)
    (tyNoCells : PySem.W.typeIn K (.ref CNoCells) = some (.type "type"))
    (kpNoCells : PySem.W.keepIn K (.ref CNoCells) = true)
    (fiNoCells : PySem.W.findIn K (.ref CNoCells) "__init__" = some (some (.ref fNoCells)))
    (ftNoCells : PySem.W.typeIn K (.ref fNoCells) = some (.type "function"))
    (flNoCells : K.lookup fNoCells = some ⟨ocNoCells, odNoCells, .func (PySem.W.fnX "__init__" "NoCells.__init__" (defArgs sNoCellsInit) (defBody sNoCellsInit) (defScope sNoCellsInit) [(("__class__" : Str), ccNoCells)] .none kVNoCells docNoCells pmNoCells anNoCells (.ref cdaNoCells) ctNoCells), slNoCells⟩)
    (cdNoCells : PySem.W.codeIn K (.ref cdaNoCells) "NoCells.__init__" = true)
    (coNoCells : K.lookup cdaNoCells = some ⟨ocANoCells, odANoCells, .fields vsNoCells, slANoCells⟩)
    (cvNoCells : vsNoCells[2]? = some (.str fileNoCells tfNoCells))
    (cfNoCells : ((l.prog.main.file : Str) == fileNoCells) = true)
    (ceNoCells : K.lookup ccNoCells = some ⟨ocBNoCells, odBNoCells, .cell (some (.ref CNoCells)), slBNoCells⟩)
    (mrNoCells : PySem.W.mroIn K CNoCells (.ref CNoCells) = some true)
    (suNoCells : PySem.W.ks_superIn K CNoCells CNoCells "__init__" = some (some (.builtin "ValueError.__init__")))
    (veNoCells : PySem.W.subIn K (.ref CNoCells) (.type "ValueError") = some true)
    (isNoCells : PySem.W.isClsIn K CNoCells = true)
    (gaNoCells : PySem.W.findIn K (.ref CNoCells) "__getattribute__" = some (some (.builtin "BaseException.__getattribute__")))
    (ggNoCells : PySem.W.findIn K (.ref CNoCells) "__getattr__" = some none)
    (hdNoCells : PySem.W.hasDictIn K CNoCells = true)
    (aCTooMany : PySem.W.nsIn K mainGlobals "TooMany" = some (some (.ref CTooMany)))
    (xlTooMany : K.lookup CTooMany = some (excClassObj nmTooMany qnTooMany CTooMany NTooMany bsTooMany [.ref CFormError, .type "ValueError", .type "Exception", .type "BaseException", .type "object"] true snTooMany subTooMany abTooMany colTooMany ddTooMany maTooMany mbTooMany mcTooMany mdTooMany meTooMany "ValueError.__new__"))
    (saTooMany : PySem.W.findIn K (.ref CTooMany) "__setattr__" = some (some (.builtin "object.__setattr__")))
    (exTooMany : PySem.W.subIn K (.ref CTooMany) (.type "BaseException") = some true)
    (tyTooMany : PySem.W.typeIn K (.ref CTooMany) = some (.type "type"))
    (kpTooMany : PySem.W.keepIn K (.ref CTooMany) = true)
    (fiTooMany : PySem.W.findIn K (.ref CTooMany) "__init__" = some (some (.ref fTooMany)))
    (ftTooMany : PySem.W.typeIn K (.ref fTooMany) = some (.type "function"))
    (flTooMany : K.lookup fTooMany = some ⟨ocTooMany, odTooMany, .func (PySem.W.fnX "__init__" "TooMany.__init__" (defArgs sTooManyInit) (defBody sTooManyInit) (defScope sTooManyInit) [(("__class__" : Str), ccTooMany)] .none kVTooMany docTooMany pmTooMany anTooMany (.ref cdaTooMany) ctTooMany), slTooMany⟩)
    (cdTooMany : PySem.W.codeIn K (.ref cdaTooMany) "TooMany.__init__" = true)
    (coTooMany : K.lookup cdaTooMany = some ⟨ocATooMany, odATooMany, .fields vsTooMany, slATooMany⟩)
    (cvTooMany : vsTooMany[2]? = some (.str fileTooMany tfTooMany))
    (cfTooMany : ((l.prog.main.file : Str) == fileTooMany) = true)
    (ceTooMany : K.lookup ccTooMany = some ⟨ocBTooMany, odBTooMany, .cell (some (.ref CTooMany)), slBTooMany⟩)
    (mrTooMany : PySem.W.mroIn K CTooMany (.ref CTooMany) = some true)
    (suTooMany : PySem.W.ks_superIn K CTooMany CTooMany "__init__" = some (some (.builtin "ValueError.__init__")))
    (veTooMany : PySem.W.subIn K (.ref CTooMany) (.type "ValueError") = some true)
    (isTooMany : PySem.W.isClsIn K CTooMany = true)
    (gaTooMany : PySem.W.findIn K (.ref CTooMany) "__getattribute__" = some (some (.builtin "BaseException.__getattribute__")))
    (ggTooMany : PySem.W.findIn K (.ref CTooMany) "__getattr__" = some none)
    (hdTooMany : PySem.W.hasDictIn K CTooMany = true)
    (noTooMany_most : PySem.W.findIn K (.ref CTooMany) "most" = some none)
    (opE : PySem.W.nsIn K cStatics "thirdparty.any" = some none)
    (z_super : PySem.W.nsIn K mainGlobals "super" = some none)
    (toE : (l.prog.main.scope.names.lookup ("super" : Str)).isSome = false)
    (sbNoNumber_NoNumber : PySem.W.subIn K (.ref CNoNumber) (.ref CNoNumber) = some true)
    (sbNoNumber_NoSayings : PySem.W.subIn K (.ref CNoNumber) (.ref CNoSayings) = some false)
    (sbNoNumber_NoCells : PySem.W.subIn K (.ref CNoNumber) (.ref CNoCells) = some false)
    (sbNoNumber_TooMany : PySem.W.subIn K (.ref CNoNumber) (.ref CTooMany) = some false)
    (sbNoSayings_NoNumber : PySem.W.subIn K (.ref CNoSayings) (.ref CNoNumber) = some false)
    (sbNoSayings_NoSayings : PySem.W.subIn K (.ref CNoSayings) (.ref CNoSayings) = some true)
    (sbNoSayings_NoCells : PySem.W.subIn K (.ref CNoSayings) (.ref CNoCells) = some false)
    (sbNoSayings_TooMany : PySem.W.subIn K (.ref CNoSayings) (.ref CTooMany) = some false)
    (sbNoCells_NoNumber : PySem.W.subIn K (.ref CNoCells) (.ref CNoNumber) = some false)
    (sbNoCells_NoSayings : PySem.W.subIn K (.ref CNoCells) (.ref CNoSayings) = some false)
    (sbNoCells_NoCells : PySem.W.subIn K (.ref CNoCells) (.ref CNoCells) = some true)
    (sbNoCells_TooMany : PySem.W.subIn K (.ref CNoCells) (.ref CTooMany) = some false)
    (sbTooMany_NoNumber : PySem.W.subIn K (.ref CTooMany) (.ref CNoNumber) = some false)
    (sbTooMany_NoSayings : PySem.W.subIn K (.ref CTooMany) (.ref CNoSayings) = some false)
    (sbTooMany_NoCells : PySem.W.subIn K (.ref CTooMany) (.ref CNoCells) = some false)
    (sbTooMany_TooMany : PySem.W.subIn K (.ref CTooMany) (.ref CTooMany) = some true)
    (aCSAYINGS : PySem.W.nsIn K mainGlobals "SAYINGS" = some (some (.ref aSAYINGS)))
    (ldSAYINGS : K.lookup aSAYINGS = some ⟨.type "dict", none, .dict #[{ hash := hSAYINGS_never, key := .str "never" kSAYINGS_never, val := .int 1 tSAYINGS_never }, { hash := hSAYINGS_some, key := .str "some" kSAYINGS_some, val := .int 1 tSAYINGS_some }, { hash := hSAYINGS_then, key := .str "then" kSAYINGS_then, val := .int 2 tSAYINGS_then }] enSAYINGS, #[]⟩) (klSAYINGS : PySem.W.KeysLit w.params [{ hash := hSAYINGS_never, key := .str "never" kSAYINGS_never, val := .int 1 tSAYINGS_never }, { hash := hSAYINGS_some, key := .str "some" kSAYINGS_some, val := .int 1 tSAYINGS_some }, { hash := hSAYINGS_then, key := .str "then" kSAYINGS_then, val := .int 2 tSAYINGS_then }]) (loSAYINGS : (aSAYINGS == sysModules) = false)
    (vSAYINGS_never : PySem.W.nsIn K aSAYINGS "never" = some (some (.int 1 tSAYINGS_never)))
    (vSAYINGS_some : PySem.W.nsIn K aSAYINGS "some" = some (some (.int 1 tSAYINGS_some)))
    (vSAYINGS_then : PySem.W.nsIn K aSAYINGS "then" = some (some (.int 2 tSAYINGS_then)))
    (hACNoNumber : PySem.W.findIn K (.ref CNoNumber) "__class__" = some (some (.builtin "object.__class__")))
    (hMCNoNumber : PySem.W.mroIn K CNoNumber (.type "object") = some true)
    (hACNoSayings : PySem.W.findIn K (.ref CNoSayings) "__class__" = some (some (.builtin "object.__class__")))
    (hMCNoSayings : PySem.W.mroIn K CNoSayings (.type "object") = some true)
    (hACNoCells : PySem.W.findIn K (.ref CNoCells) "__class__" = some (some (.builtin "object.__class__")))
    (hMCNoCells : PySem.W.mroIn K CNoCells (.type "object") = some true)
    (hACTooMany : PySem.W.findIn K (.ref CTooMany) "__class__" = some (some (.builtin "object.__class__")))
    (hMCTooMany : PySem.W.mroIn K CTooMany (.type "object") = some true)
    (hN : PySem.W.specialIn K (.builtin "object.__class__") "__get__" = some (some (.builtin "getset_descriptor.__get__")))
    (hT : PySem.W.takesIn K (.builtin "object.__class__") = some true)
    (exF : PySem.W.subIn K (.ref CFormError) (.type "BaseException") = some true)
    (isF : PySem.W.isClsIn K CFormError = true)
    (tyF : PySem.W.typeIn K (.ref CFormError) = some (.type "type"))
    (sfNoNumber : PySem.W.subIn K (.ref CNoNumber) (.ref CFormError) = some true)
    (sfNoSayings : PySem.W.subIn K (.ref CNoSayings) (.ref CFormError) = some true)
    (sfNoCells : PySem.W.subIn K (.ref CNoCells) (.ref CFormError) = some true)
    (sfTooMany : PySem.W.subIn K (.ref CTooMany) (.ref CFormError) = some true)
    (neNoNumber_NoSayings : ((Value.ref CNoNumber) == (Value.ref CNoSayings)) = false)
    (neNoNumber_NoCells : ((Value.ref CNoNumber) == (Value.ref CNoCells)) = false)
    (neNoNumber_TooMany : ((Value.ref CNoNumber) == (Value.ref CTooMany)) = false)
    (neNoSayings_NoNumber : ((Value.ref CNoSayings) == (Value.ref CNoNumber)) = false)
    (neNoSayings_NoCells : ((Value.ref CNoSayings) == (Value.ref CNoCells)) = false)
    (neNoSayings_TooMany : ((Value.ref CNoSayings) == (Value.ref CTooMany)) = false)
    (neNoCells_NoNumber : ((Value.ref CNoCells) == (Value.ref CNoNumber)) = false)
    (neNoCells_NoSayings : ((Value.ref CNoCells) == (Value.ref CNoSayings)) = false)
    (neNoCells_TooMany : ((Value.ref CNoCells) == (Value.ref CTooMany)) = false)
    (neTooMany_NoNumber : ((Value.ref CTooMany) == (Value.ref CNoNumber)) = false)
    (neTooMany_NoSayings : ((Value.ref CTooMany) == (Value.ref CNoSayings)) = false)
    (neTooMany_NoCells : ((Value.ref CTooMany) == (Value.ref CNoCells)) = false)
    (z_len : PySem.W.nsIn K mainGlobals "len" = some none)
    (z_int : PySem.W.nsIn K mainGlobals "int" = some none)
    (z_abs : PySem.W.nsIn K mainGlobals "abs" = some none)
    (z_list : PySem.W.nsIn K mainGlobals "list" = some none)
    (z_tuple : PySem.W.nsIn K mainGlobals "tuple" = some none)
    (z_range : PySem.W.nsIn K mainGlobals "range" = some none)
    (z_min : PySem.W.nsIn K mainGlobals "min" = some none)
    (z_isinstance : PySem.W.nsIn K mainGlobals "isinstance" = some none)
    (z_enumerate : PySem.W.nsIn K mainGlobals "enumerate" = some none)
    (z_bool : PySem.W.nsIn K mainGlobals "bool" = some none)
    (z_str : PySem.W.nsIn K mainGlobals "str" = some none)
    (z_all : PySem.W.nsIn K mainGlobals "all" = some none)
    (z_any : PySem.W.nsIn K mainGlobals "any" = some none)
    (z_sum : PySem.W.nsIn K mainGlobals "sum" = some none)
    (z_max : PySem.W.nsIn K mainGlobals "max" = some none)
    (z_sorted : PySem.W.nsIn K mainGlobals "sorted" = some none)
    (z_zip : PySem.W.nsIn K mainGlobals "zip" = some none)
    (z_set : PySem.W.nsIn K mainGlobals "set" = some none)
    (g_MOST_MARKS : PySem.W.nsIn K mainGlobals "MOST_MARKS" = some (some (.int 6 u0)))
    (g_MOST_CELLS : PySem.W.nsIn K mainGlobals "MOST_CELLS" = some (some (.int 24 u1)))
    (g_MOST_MARKS_OF_WHOLE : PySem.W.nsIn K mainGlobals "MOST_MARKS_OF_WHOLE" = some (some (.int 4 u2)))
    (g_MOST_SAYINGS : PySem.W.nsIn K mainGlobals "MOST_SAYINGS" = some (some (.int 20 u3))) :
    ∃ fd : FuncData, (∀ (s : Shared) (v : Value), BindsTo s fd ⟨[v], []⟩ [("script", v)]) ∧ ∀ base : Heap, K.In base → base.Ns mainGlobals mg → FnOk l.prog w K mg base CX0 9 fa fd ["script"] (spLaw K) := by
  have e := hfa.symm.trans (PySem.W.mg_of X G a23)
  cases e
  have T : Txt mg := ⟨PySem.W.mg_none_of X G z_len, PySem.W.mg_none_of X G z_int, PySem.W.mg_none_of X G z_abs, PySem.W.mg_none_of X G z_list, PySem.W.mg_none_of X G z_tuple, PySem.W.mg_none_of X G z_range, PySem.W.mg_none_of X G z_min, PySem.W.mg_none_of X G z_isinstance, PySem.W.mg_none_of X G z_enumerate, PySem.W.mg_none_of X G z_bool, PySem.W.mg_none_of X G z_str, PySem.W.mg_none_of X G z_all, PySem.W.mg_none_of X G z_any, PySem.W.mg_none_of X G z_sum, PySem.W.mg_none_of X G z_max, PySem.W.mg_none_of X G z_sorted, PySem.W.mg_none_of X G z_zip, PySem.W.mg_none_of X G z_set⟩
  have oeNoNumber : OexC K CNoNumber := ⟨⟨nmNoNumber, qnNoNumber, NNoNumber, bsNoNumber, _, snNoNumber, subNoNumber, abNoNumber, colNoNumber, ddNoNumber, maNoNumber, mbNoNumber, mcNoNumber, mdNoNumber, meNoNumber, xlNoNumber, (show PySem.HandSPX.refsVE [.type "ValueError", .type "Exception", .type "BaseException", .type "object"] = true by decide +kernel)⟩, saNoNumber, exNoNumber, tyNoNumber, kpNoNumber⟩
  have xcNoNumber : XCls l.prog K mg CNoNumber fNoNumber ccNoNumber (nNoNumber ccNoNumber cdaNoNumber) := ⟨oeNoNumber, ⟨_, _, _, _, _, _, _, _, flNoNumber⟩, rfl, cdNoNumber, ⟨_, _, _, _, _, _, coNoNumber, cvNoNumber, cfNoNumber⟩, ⟨_, _, _, ceNoNumber⟩, mrNoNumber, suNoNumber, veNoNumber, opE, PySem.W.mg_none_of X G z_super, toE⟩
  have xfNoNumber : XfC K CNoNumber := ⟨gaNoNumber, ggNoNumber, exNoNumber, hdNoNumber⟩
  have caNoNumber : Catch K mg "NoNumber" CNoNumber := ⟨PySem.W.mg_of X G aCNoNumber, exNoNumber, isNoNumber, tyNoNumber⟩
  have oeNoSayings : OexC K CNoSayings := ⟨⟨nmNoSayings, qnNoSayings, NNoSayings, bsNoSayings, _, snNoSayings, subNoSayings, abNoSayings, colNoSayings, ddNoSayings, maNoSayings, mbNoSayings, mcNoSayings, mdNoSayings, meNoSayings, xlNoSayings, (show PySem.HandSPX.refsVE [.type "ValueError", .type "Exception", .type "BaseException", .type "object"] = true by decide +kernel)⟩, saNoSayings, exNoSayings, tyNoSayings, kpNoSayings⟩
  have xcNoSayings : XCls l.prog K mg CNoSayings fNoSayings ccNoSayings (nNoSayings ccNoSayings cdaNoSayings) := ⟨oeNoSayings, ⟨_, _, _, _, _, _, _, _, flNoSayings⟩, rfl, cdNoSayings, ⟨_, _, _, _, _, _, coNoSayings, cvNoSayings, cfNoSayings⟩, ⟨_, _, _, ceNoSayings⟩, mrNoSayings, suNoSayings, veNoSayings, opE, PySem.W.mg_none_of X G z_super, toE⟩
  have xfNoSayings : XfC K CNoSayings := ⟨gaNoSayings, ggNoSayings, exNoSayings, hdNoSayings⟩
  have caNoSayings : Catch K mg "NoSayings" CNoSayings := ⟨PySem.W.mg_of X G aCNoSayings, exNoSayings, isNoSayings, tyNoSayings⟩
  have oeNoCells : OexC K CNoCells := ⟨⟨nmNoCells, qnNoCells, NNoCells, bsNoCells, _, snNoCells, subNoCells, abNoCells, colNoCells, ddNoCells, maNoCells, mbNoCells, mcNoCells, mdNoCells, meNoCells, xlNoCells, (show PySem.HandSPX.refsVE [.type "ValueError", .type "Exception", .type "BaseException", .type "object"] = true by decide +kernel)⟩, saNoCells, exNoCells, tyNoCells, kpNoCells⟩
  have xcNoCells : XCls l.prog K mg CNoCells fNoCells ccNoCells (nNoCells ccNoCells cdaNoCells) := ⟨oeNoCells, ⟨_, _, _, _, _, _, _, _, flNoCells⟩, rfl, cdNoCells, ⟨_, _, _, _, _, _, coNoCells, cvNoCells, cfNoCells⟩, ⟨_, _, _, ceNoCells⟩, mrNoCells, suNoCells, veNoCells, opE, PySem.W.mg_none_of X G z_super, toE⟩
  have xfNoCells : XfC K CNoCells := ⟨gaNoCells, ggNoCells, exNoCells, hdNoCells⟩
  have caNoCells : Catch K mg "NoCells" CNoCells := ⟨PySem.W.mg_of X G aCNoCells, exNoCells, isNoCells, tyNoCells⟩
  have oeTooMany : OexC K CTooMany := ⟨⟨nmTooMany, qnTooMany, NTooMany, bsTooMany, _, snTooMany, subTooMany, abTooMany, colTooMany, ddTooMany, maTooMany, mbTooMany, mcTooMany, mdTooMany, meTooMany, xlTooMany, (show PySem.HandSPX.refsVE [.type "ValueError", .type "Exception", .type "BaseException", .type "object"] = true by decide +kernel)⟩, saTooMany, exTooMany, tyTooMany, kpTooMany⟩
  have xcTooMany : XCls l.prog K mg CTooMany fTooMany ccTooMany (nTooMany ccTooMany cdaTooMany) := ⟨oeTooMany, ⟨_, _, _, _, _, _, _, _, flTooMany⟩, rfl, cdTooMany, ⟨_, _, _, _, _, _, coTooMany, cvTooMany, cfTooMany⟩, ⟨_, _, _, ceTooMany⟩, mrTooMany, suTooMany, veTooMany, opE, PySem.W.mg_none_of X G z_super, toE⟩
  have xfTooMany : XfC K CTooMany := ⟨gaTooMany, ggTooMany, exTooMany, hdTooMany⟩
  have caTooMany : Catch K mg "TooMany" CTooMany := ⟨PySem.W.mg_of X G aCTooMany, exTooMany, isTooMany, tyTooMany⟩
  have cM : FamCst mg := ⟨u0, u1, PySem.W.mg_of X G g_MOST_MARKS, PySem.W.mg_of X G g_MOST_CELLS⟩
  have FT : FamTxt K mg CF := ⟨⟨pgCCF, hdCCF, poCCF, saCCF⟩, nCF_many, nCF_cells, PySem.W.mg_of X G aCCF⟩
  have cW : WhCst mg := ⟨u2, u0, PySem.W.mg_of X G g_MOST_MARKS_OF_WHOLE, PySem.W.mg_of X G g_MOST_MARKS⟩
  have cMs : MsCst mg := ⟨u3, PySem.W.mg_of X G g_MOST_SAYINGS⟩
  have cS : SayCst K w mg aSAYINGS := ⟨PySem.W.mg_of X G aCSAYINGS, ⟨_, _, ldSAYINGS, klSAYINGS, loSAYINGS⟩, ⟨_, vSAYINGS_never⟩, ⟨_, vSAYINGS_some⟩, ⟨_, vSAYINGS_then⟩⟩
  have cSD : SayCstD K w mg aSAYINGS := ⟨PySem.W.mg_of X G aCSAYINGS, ⟨_, _, ldSAYINGS, klSAYINGS, loSAYINGS⟩, sayings_all ldSAYINGS⟩
  have cB : Catch K mg "FormError" CFormError := ⟨PySem.W.mg_of X G aCFormError, exF, isF, tyF⟩
  have ecNoNumber : ExcC K CNoNumber := ⟨gaNoNumber, ggNoNumber, exNoNumber, hdNoNumber, hACNoNumber, hN, hT, hMCNoNumber⟩
  have ecNoSayings : ExcC K CNoSayings := ⟨gaNoSayings, ggNoSayings, exNoSayings, hdNoSayings, hACNoSayings, hN, hT, hMCNoSayings⟩
  have ecNoCells : ExcC K CNoCells := ⟨gaNoCells, ggNoCells, exNoCells, hdNoCells, hACNoCells, hN, hT, hMCNoCells⟩
  have ecTooMany : ExcC K CTooMany := ⟨gaTooMany, ggTooMany, exTooMany, hdTooMany, hACTooMany, hN, hT, hMCTooMany⟩
  have kkF : Kit4 K CNoNumber CNoSayings CNoCells CTooMany := ⟨kit_own _, kit_not isNoSayings tyNoSayings sbNoNumber_NoSayings neNoNumber_NoSayings, kit_not isNoCells tyNoCells sbNoNumber_NoCells neNoNumber_NoCells, kit_not isTooMany tyTooMany sbNoNumber_TooMany neNoNumber_TooMany, kit_not isNoNumber tyNoNumber sbNoSayings_NoNumber neNoSayings_NoNumber, kit_own _, kit_not isNoCells tyNoCells sbNoSayings_NoCells neNoSayings_NoCells, kit_not isTooMany tyTooMany sbNoSayings_TooMany neNoSayings_TooMany, kit_not isNoNumber tyNoNumber sbNoCells_NoNumber neNoCells_NoNumber, kit_not isNoSayings tyNoSayings sbNoCells_NoSayings neNoCells_NoSayings, kit_own _, kit_not isTooMany tyTooMany sbNoCells_TooMany neNoCells_TooMany, kit_not isNoNumber tyNoNumber sbTooMany_NoNumber neTooMany_NoNumber, kit_not isNoSayings tyNoSayings sbTooMany_NoSayings neTooMany_NoSayings, kit_not isNoCells tyNoCells sbTooMany_NoCells neTooMany_NoCells, kit_own _⟩
  have F_is_integer := fun_mk (st := sIsInteger) l0 c0 k0
  have b_is_integer := F_is_integer.binds (ps := ["thing"]) fun _ _ _ _ _ _ us hl => match us, hl with | [_], _ => rfl
  have F_is_between := fun_mk (st := sIsBetween) l1 c1 k1
  have b_is_between := F_is_between.binds (ps := ["low", "high", "thing"]) fun _ _ _ _ _ _ us hl => match us, hl with | [_, _, _], _ => rfl
  have F_is_cell := fun_mk (st := sIsCell) l2 c2 k2
  have b_is_cell := F_is_cell.binds (ps := ["many", "thing"]) fun _ _ _ _ _ _ us hl => match us, hl with | [_, _], _ => rfl
  have F_lies_within := fun_mk (st := sLiesWithin) l3 c3 k3
  have b_lies_within := F_lies_within.binds (ps := ["inner", "outer"]) fun _ _ _ _ _ _ us hl => match us, hl with | [_, _], _ => rfl
  have F_all_within := fun_mk (st := sAllWithin) l4 c4 k4
  have b_all_within := F_all_within.binds (ps := ["marks"]) fun _ _ _ _ _ _ us hl => match us, hl with | [_], _ => rfl
  have F_all_cells := fun_mk (st := sAllCells) l5 c5 k5
  have b_all_cells := F_all_cells.binds (ps := ["many"]) fun _ _ _ _ _ _ us hl => match us, hl with | [_], _ => rfl
  have F_are_cells := fun_mk (st := sAreCells) l6 c6 k6
  have b_are_cells := F_are_cells.binds (ps := ["many", "thing"]) fun _ _ _ _ _ _ us hl => match us, hl with | [_, _], _ => rfl
  have F_whole := fun_mk (st := sWhole) l7 c7 k7
  have b_whole := F_whole.binds (ps := ["many"]) fun _ _ _ _ _ _ us hl => match us, hl with | [_], _ => rfl
  have F_line := fun_mk (st := sLine) l8 c8 k8
  have b_line := F_line.binds (ps := ["many"]) fun _ _ _ _ _ _ us hl => match us, hl with | [_], _ => rfl
  have F_said := fun_mk (st := sSaid) l9 c9 k9
  have b_said := F_said.binds (ps := ["many", "sayings"]) fun _ _ _ _ _ _ us hl => match us, hl with | [_, _], _ => rfl
  have F_are_sayings := fun_mk (st := sAreSayings) l10 c10 k10
  have b_are_sayings := F_are_sayings.binds (ps := ["many", "thing"]) fun _ _ _ _ _ _ us hl => match us, hl with | [_, _], _ => rfl
  have F_is_saying := fun_mk (st := sIsSaying) l11 c11 k11
  have b_is_saying := F_is_saying.binds (ps := ["many", "thing"]) fun _ _ _ _ _ _ us hl => match us, hl with | [_, _], _ => rfl
  have F_keeps_all := fun_mk (st := sKeepsAll) l12 c12 k12
  have b_keeps_all := F_keeps_all.binds (ps := ["cell", "sayings"]) fun _ _ _ _ _ _ us hl => match us, hl with | [_, _], _ => rfl
  have F_keeps := fun_mk (st := sKeeps) l13 c13 k13
  have b_keeps := F_keeps.binds (ps := ["cell", "saying"]) fun _ _ _ _ _ _ us hl => match us, hl with | [_, _], _ => rfl
  have F_law_deck := fun_mk (st := sLawDeck) l14 c14 k14
  have b_law_deck := F_law_deck.binds (ps := ["script"]) fun _ _ _ _ _ _ us hl => match us, hl with | [_], _ => rfl
  have F_law_take := fun_mk (st := sLawTake) l15 c15 k15
  have b_law_take := F_law_take.binds (ps := ["deck", "many"]) fun _ _ _ _ _ _ us hl => match us, hl with | [_, _], _ => rfl
  have F_law_is_int := fun_mk (st := sLawIsInt) l16 c16 k16
  have b_law_is_int := F_law_is_int.binds (ps := ["thing"]) fun _ _ _ _ _ _ us hl => match us, hl with | [_], _ => rfl
  have F_law_are_marks := fun_mk (st := sLawAreMarks) l17 c17 k17
  have b_law_are_marks := F_law_are_marks.binds (ps := ["thing", "many"]) fun _ _ _ _ _ _ us hl => match us, hl with | [_, _], _ => rfl
  have F_law_deep := fun_mk (st := sLawDeep) l18 c18 k18
  have b_law_deep := F_law_deep.binds (ps := ["deck"]) fun _ _ _ _ _ _ us hl => match us, hl with | [_], _ => rfl
  have F_law_odd := fun_mk (st := sLawOdd) l19 c19 k19
  have b_law_odd := F_law_odd.binds (ps := ["deck"]) fun _ _ _ _ _ _ us hl => match us, hl with | [_], _ => rfl
  have F_law_told := fun_mk (st := sLawTold) l20 c20 k20
  have b_law_told := F_law_told.binds (ps := ["which", "many", "sayings"]) fun _ _ _ _ _ _ us hl => match us, hl with | [_, _, _], _ => rfl
  have F_law_bad_saying := fun_mk (st := sLawBadSaying) l21 c21 k21
  have b_law_bad_saying := F_law_bad_saying.binds (ps := ["deck", "many"]) fun _ _ _ _ _ _ us hl => match us, hl with | [_, _], _ => rfl
  have F_law_is_saying := fun_mk (st := sLawIsSaying) l22 c22 k22
  have b_law_is_saying := F_law_is_saying.binds (ps := ["many", "thing"]) fun _ _ _ _ _ _ us hl => match us, hl with | [_, _], _ => rfl
  have F_law := fun_mk (st := sLaw) l23 c23 k23
  have b_law := F_law.binds (ps := ["script"]) fun _ _ _ _ _ _ us hl => match us, hl with | [_], _ => rfl
  have F_initCF := fun_mk (st := sFamilyInit) l24 c24 k24
  have b_initCF := F_initCF.binds (ps := ["self", "many", "cells"]) fun _ _ _ _ _ _ us hl => match us, hl with | [_, _, _], _ => rfl
  refine ⟨PySem.W.fnOf "law" "law" (defArgs sLaw) (defBody sLaw) (defScope sLaw) .none kV23 dc23 pm23 an23 cd23 ct23, fun s v => .of_eq rfl, fun base _ _ => ?_⟩
  have heNoNumber : ErrC l.prog w K mg base "NoNumber" CNoNumber ["self"] (spX0 CNoNumber) := err_NoNumber xcNoNumber fiNoNumber ftNoNumber (PySem.W.mg_of X G aCNoNumber)
  have heNoSayings : ErrC l.prog w K mg base "NoSayings" CNoSayings ["self"] (spX0 CNoSayings) := err_NoSayings xcNoSayings fiNoSayings ftNoSayings (PySem.W.mg_of X G aCNoSayings)
  have heNoCells : ErrC l.prog w K mg base "NoCells" CNoCells ["self"] (spX0 CNoCells) := err_NoCells xcNoCells fiNoCells ftNoCells (PySem.W.mg_of X G aCNoCells)
  have heTooMany : ErrC l.prog w K mg base "TooMany" CTooMany ["self", "most"] (spX1 CTooMany "most") := err_TooMany xcTooMany noTooMany_most fiTooMany ftTooMany (PySem.W.mg_of X G aCTooMany)
  have HT : Has l.prog w K mg base "_law_take" ["deck", "many"] 1 spTake := ⟨f15, _, ok_take F_law_take T, PySem.W.mg_of X G a15, k15, b_law_take⟩
  have HD : Has l.prog w K mg base "_law_deck" ["script"] 1 (spDeck K) := ⟨f14, _, ok_deck F_law_deck T, PySem.W.mg_of X G a14, k14, b_law_deck⟩
  have HI : Has l.prog w K mg base "is_integer" ["thing"] 1 spIsInteger := ⟨f0, _, ok_integer F_is_integer T, PySem.W.mg_of X G a0, k0, b_is_integer⟩
  have HB : Has l.prog w K mg base "is_between" ["low", "high", "thing"] 2 spBetween := ⟨f1, _, ok_between F_is_between HI, PySem.W.mg_of X G a1, k1, b_is_between⟩
  have HCe : Has l.prog w K mg base "is_cell" ["many", "thing"] 3 spIsCell := ⟨f2, _, ok_cell F_is_cell T HB, PySem.W.mg_of X G a2, k2, b_is_cell⟩
  have HAc : Has l.prog w K mg base "_are_cells" ["many", "thing"] 4 spAreCells := ⟨f6, _, ok_areCells F_are_cells T T.set cM HCe, PySem.W.mg_of X G a6, k6, b_are_cells⟩
  have HFm : HasC l.prog w K mg base "Family" CF ["self", "many", "cells"] 5 (spFam CF) := ⟨f24, _, ok_fam F_initCF T cM FT HB HAc, ⟨mkCCF, a24, i24, kcCCF⟩, PySem.W.mg_of X G aCCF, b_initCF⟩
  have HLi : Has l.prog w K mg base "lies_within" ["inner", "outer"] 1 spLies := ⟨f3, _, ok_lies F_lies_within, PySem.W.mg_of X G a3, k3, b_lies_within⟩
  have HW : Has l.prog w K mg base "all_within" ["marks"] 1 spWithin := ⟨f4, _, ok_within F_all_within T, PySem.W.mg_of X G a4, k4, b_all_within⟩
  have HA : Has l.prog w K mg base "all_cells" ["many"] 2 spCellsAll := ⟨f5, _, ok_cellsAll F_all_cells T HW, PySem.W.mg_of X G a5, k5, b_all_cells⟩
  have HKe : Has l.prog w K mg base "_keeps" ["cell", "saying"] 2 spKeeps := ⟨f13, _, ok_keeps F_keeps T HLi, PySem.W.mg_of X G a13, k13, b_keeps⟩
  have HKa : Has l.prog w K mg base "_keeps_all" ["cell", "sayings"] 3 (spEither spKeepsB) := ⟨f12, _, ok_either (ok_keepsAllL F_keeps_all HKe) (ok_keepsAllT F_keeps_all HKe), PySem.W.mg_of X G a12, k12, b_keeps_all⟩
  have HIs : Has l.prog w K mg base "_is_saying" ["many", "thing"] 4 spIsSaying := ⟨f11, _, ok_isSaying F_is_saying T cS HCe, PySem.W.mg_of X G a11, k11, b_is_saying⟩
  have HAs : Has l.prog w K mg base "_are_sayings" ["many", "thing"] 5 (spEither spAreSays) := ⟨f10, _, ok_either (ok_areSaysL F_are_sayings T cMs HIs) (ok_areSaysT F_are_sayings T cMs HIs), PySem.W.mg_of X G a10, k10, b_are_sayings⟩
  have HId : Has l.prog w K mg base "is_integer" ["thing"] 1 spIntD := ⟨f0, _, okd_integer F_is_integer T, PySem.W.mg_of X G a0, k0, b_is_integer⟩
  have HBd : Has l.prog w K mg base "is_between" ["low", "high", "thing"] 2 spBtwD := ⟨f1, _, okd_between F_is_between HId, PySem.W.mg_of X G a1, k1, b_is_between⟩
  have HCd : Has l.prog w K mg base "is_cell" ["many", "thing"] 3 spCellD := ⟨f2, _, okd_cell F_is_cell T HBd, PySem.W.mg_of X G a2, k2, b_is_cell⟩
  have HIsd : Has l.prog w K mg base "_is_saying" ["many", "thing"] 4 spIsSayD := ⟨f11, _, okd_isSaying F_is_saying T cSD HCd, PySem.W.mg_of X G a11, k11, b_is_saying⟩
  have HAsd : Has l.prog w K mg base "_are_sayings" ["many", "thing"] 5 (spEither spAreSaysD) := ⟨f10, _, ok_either (okd_areSaysL F_are_sayings T cMs HIsd) (okd_areSaysT F_are_sayings T cMs HIsd), PySem.W.mg_of X G a10, k10, b_are_sayings⟩
  have HWh : HasR l.prog w K mg base "whole" ["many"] 7 (spAnyFam CNoNumber 4) := ⟨⟨f7, _, okd_whole F_whole T cW HBd HA heNoNumber HFm, PySem.W.mg_of X G a7, k7, b_whole⟩⟩
  have HLn : HasR l.prog w K mg base "line" ["many"] 7 (spAnyFam CNoNumber 6) := ⟨⟨f8, _, okd_line F_line T cW HBd heNoNumber HFm, PySem.W.mg_of X G a8, k8, b_line⟩⟩
  have HSd : HasR l.prog w K mg base "said" ["many", "sayings"] 7 (fun vs H Q E => spSaidBad CNoNumber CNoSayings vs H Q E ∨ spSaid CF CNoCells CTooMany true vs H Q E) := ⟨⟨f9, _, ok_eitherX (okd_saidBad F_said T cM HBd HAsd heNoNumber heNoSayings) (ok_said F_said T cM HB HAs HA HKa heNoNumber heNoSayings heNoCells heTooMany HFm), PySem.W.mg_of X G a9, k9, b_said⟩⟩
  have HLI : Has l.prog w K mg base "_law_is_int" ["thing"] 1 spIntD := ⟨f16, _, okd_lawIsInt F_law_is_int T, PySem.W.mg_of X G a16, k16, b_law_is_int⟩
  have HLM : Has l.prog w K mg base "_law_are_marks" ["thing", "many"] 2 spMarksD := ⟨f17, _, okd_lawAreMarks F_law_are_marks T HLI, PySem.W.mg_of X G a17, k17, b_law_are_marks⟩
  have HDe : Has l.prog w K mg base "_law_deep" ["deck"] 2 spDeep := ⟨f18, _, ok_deep F_law_deep T HT, PySem.W.mg_of X G a18, k18, b_law_deep⟩
  have HO : Has l.prog w K mg base "_law_odd" ["deck"] 3 spOdd := ⟨f19, _, ok_odd F_law_odd T HT HDe, PySem.W.mg_of X G a19, k19, b_law_odd⟩
  have HBs : Has l.prog w K mg base "_law_bad_saying" ["deck", "many"] 4 spBadSay := ⟨f21, _, ok_badSay F_law_bad_saying T HT HO, PySem.W.mg_of X G a21, k21, b_law_bad_saying⟩
  have HLs : Has l.prog w K mg base "_law_is_saying" ["many", "thing"] 3 spLawIsSay := ⟨f22, _, ok_lawIsSay F_law_is_saying T HLM, PySem.W.mg_of X G a22, k22, b_law_is_saying⟩
  have HTo : Has l.prog w K mg base "_law_told" ["which", "many", "sayings"] 8 spTold := ⟨f20, _, ok_told (CF := CF) F_law_told T cB sfNoNumber sfNoSayings sfNoCells sfTooMany ecNoNumber ecNoSayings ecNoCells ecTooMany (PySem.W.mg_of X G aCNoNumber) (PySem.W.mg_of X G aCNoSayings) (PySem.W.mg_of X G aCNoCells) (PySem.W.mg_of X G aCTooMany) kkF xfTooMany noTooMany_most HWh HLn HSd, PySem.W.mg_of X G a20, k20, b_law_told⟩
  exact ok_law F_law T HT HD HBs HLs HTo
theorem walk {l : PySem.W.OpenLaw} {q : Program} {loose : List Str} {XP : (Str → Option Value) → Heap → Prop} {YP : World → Heap → Prop} {d : DefRec} {K : Params → PySem.W.Frag} (hn : l.most = some 63) (hdf : d.params.defaults = [])
    (hY : ∀ (w : World) (h : Heap), YP w h → (K w.params).In h)
    (F : ∀ (w : World) (mg : Str → Option Value) (fa : Addr) (h : Heap), (K w.params).In h → h.Ns mainGlobals mg → mg d.name = some (.ref fa) →
      ∃ fd : FuncData, (∀ (s : Shared) (u : Value), BindsTo s fd ⟨[u], []⟩ [("script", u)]) ∧ ∀ base : Heap, (K w.params).In base → base.Ns mainGlobals mg → FnOk l.prog w (K w.params) mg base CX0 9 fa fd ["script"] (spLaw (K w.params))) :
    PySem.W.WalkO q loose XP YP l.row.toRowW d [] (fun f vs => PySem.call f vs) :=
  L2.walk_of (n := 63) (k := 9) (x := "script") (CX := fun _ => CX0) (sp := fun w => spLaw (K w.params)) hn (by decide) hdf ⟨rfl, by decide, by decide⟩ hY F (fun _ _ a ns hl _ hS => ⟨a, ns, rfl, hS, hl, fun _ => rfl⟩) fun _ _ _ _ _ z => z
end Xci
open PySem PySem.W PyProof.Rows in
set_option maxRecDepth 100000 in
set_option maxHeartbeats 0 in
theorem PySem.Challenge.cw_sameforms_k03_sayings_refused_holds : PySem.Challenge.rw_sameforms_k03_sayings_refused.Holds := by
  w_on; o_law; k_head; (case hw => w_witness2)
  k_fill
  refine Xci.walk (l := PySem.Challenge.rw_sameforms_k03_sayings_refused) rfl rfl (fun w h Y => PySem.W.kIn_of Y) ?F
  case F =>
    intro w mg fa h KX G hmg
    refine' Xci.all_mk KX G hmg ?a0 ?l0 ?c0 ?k0 ?a1 ?l1 ?c1 ?k1 ?a2 ?l2 ?c2 ?k2 ?a3 ?l3 ?c3 ?k3 ?a4 ?l4 ?c4 ?k4 ?a5 ?l5 ?c5 ?k5 ?a6 ?l6 ?c6 ?k6 ?a7 ?l7 ?c7 ?k7 ?a8 ?l8 ?c8 ?k8 ?a9 ?l9 ?c9 ?k9 ?a10 ?l10 ?c10 ?k10 ?a11 ?l11 ?c11 ?k11 ?a12 ?l12 ?c12 ?k12 ?a13 ?l13 ?c13 ?k13 ?a14 ?l14 ?c14 ?k14 ?a15 ?l15 ?c15 ?k15 ?a16 ?l16 ?c16 ?k16 ?a17 ?l17 ?c17 ?k17 ?a18 ?l18 ?c18 ?k18 ?a19 ?l19 ?c19 ?k19 ?a20 ?l20 ?c20 ?k20 ?a21 ?l21 ?c21 ?k21 ?a22 ?l22 ?c22 ?k22 ?a23 ?l23 ?c23 ?k23 ?a24 ?i24 ?l24 ?c24 ?k24 ?aCCF ?pgCCF ?hdCCF ?poCCF ?saCCF ?mkCCF ?kcCCF ?nCF_many ?nCF_cells ?aCFormError ?aCNoNumber ?xlNoNumber ?saNoNumber ?exNoNumber ?tyNoNumber ?kpNoNumber ?fiNoNumber ?ftNoNumber ?flNoNumber ?cdNoNumber ?coNoNumber ?cvNoNumber ?cfNoNumber ?ceNoNumber ?mrNoNumber ?suNoNumber ?veNoNumber ?isNoNumber ?gaNoNumber ?ggNoNumber ?hdNoNumber ?aCNoSayings ?xlNoSayings ?saNoSayings ?exNoSayings ?tyNoSayings ?kpNoSayings ?fiNoSayings ?ftNoSayings ?flNoSayings ?cdNoSayings ?coNoSayings ?cvNoSayings ?cfNoSayings ?ceNoSayings ?mrNoSayings ?suNoSayings ?veNoSayings ?isNoSayings ?gaNoSayings ?ggNoSayings ?hdNoSayings ?aCNoCells ?xlNoCells ?saNoCells ?exNoCells ?tyNoCells ?kpNoCells ?fiNoCells ?ftNoCells ?flNoCells ?cdNoCells ?coNoCells ?cvNoCells ?cfNoCells ?ceNoCells ?mrNoCells ?suNoCells ?veNoCells ?isNoCells ?gaNoCells ?ggNoCells ?hdNoCells ?aCTooMany ?xlTooMany ?saTooMany ?exTooMany ?tyTooMany ?kpTooMany ?fiTooMany ?ftTooMany ?flTooMany ?cdTooMany ?coTooMany ?cvTooMany ?cfTooMany ?ceTooMany ?mrTooMany ?suTooMany ?veTooMany ?isTooMany ?gaTooMany ?ggTooMany ?hdTooMany ?noTooMany_most ?opE ?z_super ?toE ?sbNoNumber_NoNumber ?sbNoNumber_NoSayings ?sbNoNumber_NoCells ?sbNoNumber_TooMany ?sbNoSayings_NoNumber ?sbNoSayings_NoSayings ?sbNoSayings_NoCells ?sbNoSayings_TooMany ?sbNoCells_NoNumber ?sbNoCells_NoSayings ?sbNoCells_NoCells ?sbNoCells_TooMany ?sbTooMany_NoNumber ?sbTooMany_NoSayings ?sbTooMany_NoCells ?sbTooMany_TooMany ?aCSAYINGS ?ldSAYINGS ?klSAYINGS ?loSAYINGS ?vSAYINGS_never ?vSAYINGS_some ?vSAYINGS_then ?hACNoNumber ?hMCNoNumber ?hACNoSayings ?hMCNoSayings ?hACNoCells ?hMCNoCells ?hACTooMany ?hMCTooMany ?hN ?hT ?exF ?isF ?tyF ?sfNoNumber ?sfNoSayings ?sfNoCells ?sfTooMany ?neNoNumber_NoSayings ?neNoNumber_NoCells ?neNoNumber_TooMany ?neNoSayings_NoNumber ?neNoSayings_NoCells ?neNoSayings_TooMany ?neNoCells_NoNumber ?neNoCells_NoSayings ?neNoCells_TooMany ?neTooMany_NoNumber ?neTooMany_NoSayings ?neTooMany_NoCells ?z_len ?z_int ?z_abs ?z_list ?z_tuple ?z_range ?z_min ?z_isinstance ?z_enumerate ?z_bool ?z_str ?z_all ?z_any ?z_sum ?z_max ?z_sorted ?z_zip ?z_set ?g_MOST_MARKS ?g_MOST_CELLS ?g_MOST_MARKS_OF_WHOLE ?g_MOST_SAYINGS
    (case aCCF => k_is)
    (case aCFormError => k_is)
    (case aCNoNumber => k_is)
    (case aCNoSayings => k_is)
    (case aCNoCells => k_is)
    (case aCTooMany => k_is)
    (case aCSAYINGS => k_is)
    (case a0 => k_is)
    (case l0 => k_is)
    (case c0 => k_is)
    (case k0 => k_is)
    (case a1 => k_is)
    (case l1 => k_is)
    (case c1 => k_is)
    (case k1 => k_is)
    (case a2 => k_is)
    (case l2 => k_is)
    (case c2 => k_is)
    (case k2 => k_is)
    (case a3 => k_is)
    (case l3 => k_is)
    (case c3 => k_is)
    (case k3 => k_is)
    (case a4 => k_is)
    (case l4 => k_is)
    (case c4 => k_is)
    (case k4 => k_is)
    (case a5 => k_is)
    (case l5 => k_is)
    (case c5 => k_is)
    (case k5 => k_is)
    (case a6 => k_is)
    (case l6 => k_is)
    (case c6 => k_is)
    (case k6 => k_is)
    (case a7 => k_is)
    (case l7 => k_is)
    (case c7 => k_is)
    (case k7 => k_is)
    (case a8 => k_is)
    (case l8 => k_is)
    (case c8 => k_is)
    (case k8 => k_is)
    (case a9 => k_is)
    (case l9 => k_is)
    (case c9 => k_is)
    (case k9 => k_is)
    (case a10 => k_is)
    (case l10 => k_is)
    (case c10 => k_is)
    (case k10 => k_is)
    (case a11 => k_is)
    (case l11 => k_is)
    (case c11 => k_is)
    (case k11 => k_is)
    (case a12 => k_is)
    (case l12 => k_is)
    (case c12 => k_is)
    (case k12 => k_is)
    (case a13 => k_is)
    (case l13 => k_is)
    (case c13 => k_is)
    (case k13 => k_is)
    (case a14 => k_is)
    (case l14 => k_is)
    (case c14 => k_is)
    (case k14 => k_is)
    (case a15 => k_is)
    (case l15 => k_is)
    (case c15 => k_is)
    (case k15 => k_is)
    (case a16 => k_is)
    (case l16 => k_is)
    (case c16 => k_is)
    (case k16 => k_is)
    (case a17 => k_is)
    (case l17 => k_is)
    (case c17 => k_is)
    (case k17 => k_is)
    (case a18 => k_is)
    (case l18 => k_is)
    (case c18 => k_is)
    (case k18 => k_is)
    (case a19 => k_is)
    (case l19 => k_is)
    (case c19 => k_is)
    (case k19 => k_is)
    (case a20 => k_is)
    (case l20 => k_is)
    (case c20 => k_is)
    (case k20 => k_is)
    (case a21 => k_is)
    (case l21 => k_is)
    (case c21 => k_is)
    (case k21 => k_is)
    (case a22 => k_is)
    (case l22 => k_is)
    (case c22 => k_is)
    (case k22 => k_is)
    (case a23 => k_is)
    (case l23 => k_is)
    (case c23 => k_is)
    (case k23 => k_is)
    (case a24 => k_is)
    (case i24 => k_is)
    (case l24 => k_is)
    (case c24 => k_is)
    (case k24 => k_is)
    (case pgCCF => k_is)
    (case hdCCF => k_is)
    (case poCCF => k_is)
    (case saCCF => k_is)
    (case mkCCF => k_is)
    (case kcCCF => k_is)
    (case nCF_many => k_is)
    (case nCF_cells => k_is)
    (case xlNoNumber => k_is)
    (case saNoNumber => k_is)
    (case exNoNumber => k_is)
    (case tyNoNumber => k_is)
    (case kpNoNumber => k_is)
    (case fiNoNumber => k_is)
    (case ftNoNumber => k_is)
    (case flNoNumber => k_is)
    (case cdNoNumber => k_is)
    (case coNoNumber => k_is)
    (case cvNoNumber => first | rfl | k_is | decide +kernel)
    (case cfNoNumber => first | rfl | decide +kernel)
    (case ceNoNumber => k_is)
    (case mrNoNumber => k_is)
    (case suNoNumber => first | ks_is | k_is)
    (case veNoNumber => k_is)
    (case isNoNumber => k_is)
    (case gaNoNumber => k_is)
    (case ggNoNumber => k_is)
    (case hdNoNumber => k_is)
    (case xlNoSayings => k_is)
    (case saNoSayings => k_is)
    (case exNoSayings => k_is)
    (case tyNoSayings => k_is)
    (case kpNoSayings => k_is)
    (case fiNoSayings => k_is)
    (case ftNoSayings => k_is)
    (case flNoSayings => k_is)
    (case cdNoSayings => k_is)
    (case coNoSayings => k_is)
    (case cvNoSayings => first | rfl | k_is | decide +kernel)
    (case cfNoSayings => first | rfl | decide +kernel)
    (case ceNoSayings => k_is)
    (case mrNoSayings => k_is)
    (case suNoSayings => first | ks_is | k_is)
    (case veNoSayings => k_is)
    (case isNoSayings => k_is)
    (case gaNoSayings => k_is)
    (case ggNoSayings => k_is)
    (case hdNoSayings => k_is)
    (case xlNoCells => k_is)
    (case saNoCells => k_is)
    (case exNoCells => k_is)
    (case tyNoCells => k_is)
    (case kpNoCells => k_is)
    (case fiNoCells => k_is)
    (case ftNoCells => k_is)
    (case flNoCells => k_is)
    (case cdNoCells => k_is)
    (case coNoCells => k_is)
    (case cvNoCells => first | rfl | k_is | decide +kernel)
    (case cfNoCells => first | rfl | decide +kernel)
    (case ceNoCells => k_is)
    (case mrNoCells => k_is)
    (case suNoCells => first | ks_is | k_is)
    (case veNoCells => k_is)
    (case isNoCells => k_is)
    (case gaNoCells => k_is)
    (case ggNoCells => k_is)
    (case hdNoCells => k_is)
    (case xlTooMany => k_is)
    (case saTooMany => k_is)
    (case exTooMany => k_is)
    (case tyTooMany => k_is)
    (case kpTooMany => k_is)
    (case fiTooMany => k_is)
    (case ftTooMany => k_is)
    (case flTooMany => k_is)
    (case cdTooMany => k_is)
    (case coTooMany => k_is)
    (case cvTooMany => first | rfl | k_is | decide +kernel)
    (case cfTooMany => first | rfl | decide +kernel)
    (case ceTooMany => k_is)
    (case mrTooMany => k_is)
    (case suTooMany => first | ks_is | k_is)
    (case veTooMany => k_is)
    (case isTooMany => k_is)
    (case gaTooMany => k_is)
    (case ggTooMany => k_is)
    (case hdTooMany => k_is)
    (case noTooMany_most => k_is)
    (case opE => k_is)
    (case z_super => k_is)
    (case toE => first | rfl | decide +kernel)
    (case sbNoNumber_NoNumber => first | rfl | k_is)
    (case sbNoNumber_NoSayings => first | rfl | k_is)
    (case sbNoNumber_NoCells => first | rfl | k_is)
    (case sbNoNumber_TooMany => first | rfl | k_is)
    (case sbNoSayings_NoNumber => first | rfl | k_is)
    (case sbNoSayings_NoSayings => first | rfl | k_is)
    (case sbNoSayings_NoCells => first | rfl | k_is)
    (case sbNoSayings_TooMany => first | rfl | k_is)
    (case sbNoCells_NoNumber => first | rfl | k_is)
    (case sbNoCells_NoSayings => first | rfl | k_is)
    (case sbNoCells_NoCells => first | rfl | k_is)
    (case sbNoCells_TooMany => first | rfl | k_is)
    (case sbTooMany_NoNumber => first | rfl | k_is)
    (case sbTooMany_NoSayings => first | rfl | k_is)
    (case sbTooMany_NoCells => first | rfl | k_is)
    (case sbTooMany_TooMany => first | rfl | k_is)
    (case ldSAYINGS => k_is)
    (case klSAYINGS => exact ⟨⟨_, _, rfl, rfl⟩, ⟨_, _, rfl, rfl⟩, ⟨_, _, rfl, rfl⟩, trivial⟩)
    (case loSAYINGS => first | rfl | decide +kernel)
    (case vSAYINGS_never => k_is)
    (case vSAYINGS_some => k_is)
    (case vSAYINGS_then => k_is)
    (case hACNoNumber => k_is)
    (case hMCNoNumber => k_is)
    (case hACNoSayings => k_is)
    (case hMCNoSayings => k_is)
    (case hACNoCells => k_is)
    (case hMCNoCells => k_is)
    (case hACTooMany => k_is)
    (case hMCTooMany => k_is)
    (case hN => k_is)
    (case hT => k_is)
    (case exF => k_is)
    (case isF => k_is)
    (case tyF => k_is)
    (case sfNoNumber => first | rfl | k_is)
    (case sfNoSayings => first | rfl | k_is)
    (case sfNoCells => first | rfl | k_is)
    (case sfTooMany => first | rfl | k_is)
    (case neNoNumber_NoSayings => first | rfl | decide +kernel)
    (case neNoNumber_NoCells => first | rfl | decide +kernel)
    (case neNoNumber_TooMany => first | rfl | decide +kernel)
    (case neNoSayings_NoNumber => first | rfl | decide +kernel)
    (case neNoSayings_NoCells => first | rfl | decide +kernel)
    (case neNoSayings_TooMany => first | rfl | decide +kernel)
    (case neNoCells_NoNumber => first | rfl | decide +kernel)
    (case neNoCells_NoSayings => first | rfl | decide +kernel)
    (case neNoCells_TooMany => first | rfl | decide +kernel)
    (case neTooMany_NoNumber => first | rfl | decide +kernel)
    (case neTooMany_NoSayings => first | rfl | decide +kernel)
    (case neTooMany_NoCells => first | rfl | decide +kernel)
    (case z_len => k_is)
    (case z_int => k_is)
    (case z_abs => k_is)
    (case z_list => k_is)
    (case z_tuple => k_is)
    (case z_range => k_is)
    (case z_min => k_is)
    (case z_isinstance => k_is)
    (case z_enumerate => k_is)
    (case z_bool => k_is)
    (case z_str => k_is)
    (case z_all => k_is)
    (case z_any => k_is)
    (case z_sum => k_is)
    (case z_max => k_is)
    (case z_sorted => k_is)
    (case z_zip => k_is)
    (case z_set => k_is)
    (case g_MOST_MARKS => k_is)
    (case g_MOST_CELLS => k_is)
    (case g_MOST_MARKS_OF_WHOLE => k_is)
    (case g_MOST_SAYINGS => k_is)
