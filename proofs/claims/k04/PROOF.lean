import PyProof.Rows.All
import Wide.All
import OpenK.AllK
import Wide.FinOn
import HandS.ForMost
import KE.KeyNested
import HandS.TupLen
import HandS.Lambda
import HandS.Nested
import HandS.Conv
import KE.KLam
import KE.SortKeyHeap
import KE.SortData
import HandS.Walk
import HandS.IsInst
import HandS.Sort
import HandS.OwnEq
import HandS.Style
import HandS.Text
import KE.KStateDown
import Lean
import HandS.Base
import HandS.Call
import HandS.Ends
import HandS.More
import HandS.Words
import HandS.WordsExc
import HandS.Defaults
import HandS.Head0
import HandS.Head1
import HandS.Head2
import HandS.HeadEnd
import HandS.HeadHook1
import HandS.HeadHook2
import HandS.HeadHook3
import HandS.HeadHook4
import HandS.HeadWalk
import KE.KDictDisplayH
import HandS.Dict
import HandS.Wide
import PySem.Challenge.RW_subjecttags_k04_whole_parting_subjects
set_option Elab.async false
section
set_option Elab.async false
set_option linter.all false
set_option maxRecDepth 100000
/-! dicts whose keys are tuples of any depth (None, ints, texts, tuples): get, in, not in, put, made empty -/
namespace QD
open PySem PySem.Spec PyProof.Rows L2

mutual
inductive NV (H : Hp) : NestedKey → V → Prop
  | none : NV H .none .non
  | num (i : Int) : NV H (.num i) (.int i)
  | text (x : Str) : NV H (.text x) (.str x)
  | tup {a : Addr} {vs : List V} {ks : List NestedKey} : H a = some (.tup vs) → NVs H ks vs → NV H (.tup ks) (.ref a)
inductive NVs (H : Hp) : List NestedKey → List V → Prop
  | nil : NVs H [] []
  | cons {k : NestedKey} {v : V} {ks : List NestedKey} {vs : List V} : NV H k v → NVs H ks vs → NVs H (k :: ks) (v :: vs)
end
mutual
theorem NV.to {H H' : Hp} (t : ∀ b xs, H b = some (.tup xs) → H' b = some (.tup xs)) : ∀ (k : NestedKey) (v : V), NV H k v → NV H' k v
  | .none, _, h => by cases h; exact .none
  | .num _, _, h => by cases h; exact .num _
  | .text _, _, h => by cases h; exact .text _
  | .tup ks, _, h => by
    cases h with
    | tup h1 h2 => exact .tup (t _ _ h1) (NVs.to t ks _ h2)
theorem NVs.to {H H' : Hp} (t : ∀ b xs, H b = some (.tup xs) → H' b = some (.tup xs)) : ∀ (ks : List NestedKey) (vs : List V), NVs H ks vs → NVs H' ks vs
  | [], _, h => by cases h; exact .nil
  | k :: ks, _, h => by
    cases h with
    | cons h1 h2 => exact .cons (NV.to t k _ h1) (NVs.to t ks _ h2)
end
section
variable {P : Program} {w : World} {H : Hp} {h : Heap}
mutual
theorem NV.is (ok : HOk P w H h) : ∀ (k : NestedKey) (v : V) (u : Value), NV H k v → RelV v u → NestedIs h k u
  | .none, _, u, n, r => by
    cases n
    have r : u = Value.none := r
    subst r
    exact .none
  | .num _, _, u, n, r => by
    cases n
    obtain ⟨t, r⟩ := r
    subst r
    exact .int _ _
  | .text _, _, u, n, r => by
    cases n
    obtain ⟨t, r⟩ := r
    subst r
    exact .text _ _
  | .tup ks, _, u, n, r => by
    cases n with
    | @tup a vs _ h1 h2 =>
      obtain rfl : u = Value.ref a := r
      obtain ⟨_, its, rv, o, e1, e2, n, e3⟩ := (show ObjOk P w H h a (.tup vs) from ok a _ h1)
      exact .tup e1 e2 e3 (by simpa using NVs.is ok ks vs its h2 rv)
theorem NVs.is (ok : HOk P w H h) : ∀ (ks : List NestedKey) (vs : List V) (us : List Value), NVs H ks vs → Vals vs us → NestedAll h ks us
  | [], _, us, n, r => by
    cases n
    cases r
    exact .nil
  | k :: ks, _, us, n, r => by
    cases n with
    | cons n1 n2 =>
      cases r with
      | cons r1 r2 => exact .cons (NV.is ok k _ _ n1 r1) (NVs.is ok ks _ _ n2 r2)
end
end

/-- what the dict's own object says -/
def Dφ (P : Program) (w : World) (a : Addr) (xs : List (NestedKey × Addr × Value)) : Heap → Prop := fun h =>
  ∃ o es ep, h.get? a = some o ∧ o.ExactDict ∧ o.data = .dict es ep ∧ es.toList = xs.map (entryOfKey (nestedKind P w)) ∧ (xs.map (·.1)).Nodup ∧ xs.length ≤ sizeLine
abbrev Ent (H : Hp) : NestedKey × V → NestedKey × Addr × Value → Prop := fun p q => p.1 = q.1 ∧ NV H p.1 (.ref q.2.1) ∧ p.1.depth ≤ 8 ∧ RelV p.2 q.2.2
/-- at a stands a dict of these keys and values, in their order -/
def DN (P : Program) (w : World) (H : Hp) (a : Addr) (kvs : List (NestedKey × V)) : Prop :=
  (a == sysModules) = false ∧ ∃ xs, H a = some (.ext (Dφ P w a xs)) ∧ Paired (Ent H) kvs xs

theorem DN.to {P : Program} {w : World} {H H' : Hp} {a : Addr} {kvs : List (NestedKey × V)} (d : DN P w H a kvs) (t : ∀ b xs, H b = some (.tup xs) → H' b = some (.tup xs)) (e : H' a = H a) : DN P w H' a kvs := by
  obtain ⟨n, xs, h1, h2⟩ := d
  exact ⟨n, xs, by rw [e]; exact h1, Paired.mapP h2 fun p q z => ⟨z.1, z.2.1.to t, z.2.2⟩⟩

section
variable {H : Hp}
theorem ent_val {kvs : List (NestedKey × V)} {xs : List (NestedKey × Addr × Value)} (r : Paired (Ent H) kvs xs) (k : NestedKey) : RelO (valV kvs k) ((atKey xs k).map (·.2)) := by
  induction r with
  | nil => exact True.intro
  | @cons p q ps qs h t ih =>
    obtain ⟨h1, _, _, h2⟩ := h
    by_cases e : p.1 = k
    · have e' : q.1 = k := h1.symm.trans e
      have b : atKey (q :: qs) k = some q.2 := by simp [atKey, List.find?_cons, e']
      rw [valV_pos e, b]
      exact h2
    · have e' : ¬ q.1 = k := fun z => e (h1.trans z)
      have b : atKey (q :: qs) k = atKey qs k := by simp [atKey, List.find?_cons, e']
      rw [valV_neg e, b]
      exact ih
theorem ent_repl {kvs : List (NestedKey × V)} {xs : List (NestedKey × Addr × Value)} (r : Paired (Ent H) kvs xs) (k : NestedKey) {y : V} {u : Value} (ry : RelV y u) :
    Paired (Ent H) (kvs.map fun kv => if kv.1 = k then (kv.1, y) else kv) (xs.map (putAt k u)) := by
  induction r with
  | nil => exact .nil
  | @cons p q ps qs h t ih =>
    rw [List.map_cons, List.map_cons]
    refine .cons ?_ ih
    obtain ⟨h1, h2, h3, h4⟩ := h
    unfold putAt
    by_cases e : p.1 = k
    · rw [if_pos e, if_pos (h1.symm.trans e)]
      exact ⟨h1, h2, h3, ry⟩
    · rw [if_neg e, if_neg (fun z => e (h1.trans z))]
      exact ⟨h1, h2, h3, h4⟩
theorem ent_put {kvs : List (NestedKey × V)} {xs : List (NestedKey × Addr × Value)} (r : Paired (Ent H) kvs xs) (k : NestedKey) {b : Addr} {y : V} {u : Value} (hb : NV H k (.ref b)) (hd : k.depth ≤ 8) (ry : RelV y u) :
    Paired (Ent H) (putK kvs k y) (storedH xs k b u) := by
  have e : (kvs.any fun kv => decide (kv.1 = k)) = (atKey xs k).isSome := by
    rw [valV_any, (ent_val r k).isSome_eq, Option.isSome_map]
  unfold putK storedH
  rw [e]
  by_cases q : (atKey xs k).isSome = true
  · rw [if_pos q, if_pos q]
    exact ent_repl r k ry
  · rw [if_neg q, if_neg q]
    exact Paired.snoc r ⟨rfl, hb, hd, ry⟩
end

section
variable {P : Program} {w : World} {H : Hp} {h : Heap} {a : Addr} {kvs : List (NestedKey × V)}
theorem ent_is (ok : HOk P w H h) {xs : List (NestedKey × Addr × Value)} (r : Paired (Ent H) kvs xs) : ∀ x ∈ xs, (nestedKind P w).is h x.1 x.2.1 := by
  induction r with
  | nil => intro x hx; exact nomatch hx
  | @cons p q ps qs hq t ih =>
    intro x hx
    rcases List.mem_cons.mp hx with e | hx
    · subst e
      obtain ⟨e1, e2, e3, _⟩ := hq
      rw [e1] at e2 e3
      exact ⟨NV.is ok _ _ _ e2 rfl, e3⟩
    · exact ih x hx
theorem dn_of (ok : HOk P w H h) {xs : List (NestedKey × Addr × Value)} (e : H a = some (.ext (Dφ P w a xs))) (r : Paired (Ent H) kvs xs) : h.DictOfH (nestedKind P w) a xs ∧ xs.length ≤ sizeLine := by
  obtain ⟨⟨o, es, ep, h1, h2, h3, h4, h5, h6⟩, _, _⟩ := ok a _ e
  exact ⟨⟨o, es, ep, h1, h2, h3, h4, ent_is ok r, h5⟩, h6⟩
theorem key_is (ok : HOk P w H h) {k : NestedKey} {b : Addr} (n : NV H k (.ref b)) (hd : k.depth ≤ 8) : (nestedKind P w).is h k b := ⟨NV.is ok _ _ _ n rfl, hd⟩
theorem dn_ok {h' : Heap} {H' : Hp} {xs : List (NestedKey × Addr × Value)} (d : h'.DictOfH (nestedKind P w) a xs) (z : xs.length ≤ sizeLine) : ObjOk P w H' h' a (.ext (Dφ P w a xs)) := by
  obtain ⟨o, es, ep, h1, h2, h3, h4, _, h5⟩ := d
  exact ⟨⟨o, es, ep, h1, h2, h3, h4, h5, z⟩, ⟨o, h1⟩, fun g1 g2 ⟨o, es, ep, k1, k2⟩ st => ⟨o, es, ep, st _ k1, k2⟩⟩
end

section
variable {X : Cx} {o i value : Expr} {td ty tv : TE} {pos pos' : Pos}
/-- {} -/
def tNewN (X : Cx) : TE := fun _ H Q => ∀ p H', H p = none → (∀ b, b ≠ p → H' b = H b) → DN X.prog X.w H' p [] → H' p ≠ none → Q (.ref p) H'
theorem pe_newN : PE X (.Dict [] [] pos) (tNewN X) := ⟨fun pins s σ H Q I h => by
  have nm : (s.heap.objs.size == sysModules) = false := by
    have q := I.big
    refine beq_eq_false_iff_ne.mpr fun e => ?_
    rw [show s.heap.objs.size = sysModules from e] at q
    exact Nat.lt_irrefl _ q
  have new : ObjOk X.prog X.w (upd H s.heap.objs.size (.ext (Dφ X.prog X.w s.heap.objs.size []))) (s.heap.push { cls := .type "dict", data := .dict #[] }) s.heap.objs.size (.ext (Dφ X.prog X.w s.heap.objs.size [])) :=
    dn_ok (Heap.DictOfH.new s.heap) (Nat.zero_le _)
  exact wpAny_Dict_empty ⟨.ref s.heap.objs.size, _, I.laid (a := s.heap.objs.size) (t' := s.toks) (fun _ _ q => Heap.get?_push_of_some _ q) (Nat.le_refl _) new, rfl,
    h _ _ (I.hok.fresh (Nat.le_refl _)) (fun b hb => upd_ne hb) ⟨nm, [], upd_same, .nil⟩ (by rw [upd_same]; exact fun z => nomatch z)⟩⟩

/-- d[k], there; k in d; k not in d -/
def tGetN (X : Cx) (td ty : TE) : TE := fun σ H Q => td σ H fun x H1 => ty σ H1 fun y H2 => ∃ a b kvs k v, x = .ref a ∧ y = .ref b ∧ DN X.prog X.w H2 a kvs ∧ NV H2 k (.ref b) ∧ k.depth ≤ 8 ∧ valV kvs k = some v ∧ Q v H2
def tInN (X : Cx) (neg : Bool) (ty td : TE) : TE := fun σ H Q => ty σ H fun y H1 => td σ H1 fun x H2 => ∃ a b kvs k, x = .ref a ∧ y = .ref b ∧ DN X.prog X.w H2 a kvs ∧ NV H2 k (.ref b) ∧ k.depth ≤ 8 ∧ Q (.bl (if neg then !(valV kvs k).isSome else (valV kvs k).isSome)) H2
theorem room_in1 {A : Around} {P : Program} {w : World} (hu : A.units + 64 < cLine) : (nestedKind P w).room A.in1 := by
  show A.units + 1 + 8 < cLine
  omega
theorem pe_getN (hu : X.A.units + 64 < cLine) (ho : PE X o td) (hi : PE X i ty) (hs : NoSl i) : PE X (.Subscript o i pos) (tGetN X td ty) := by
  refine ⟨fun pins s σ H Q I h => ?_⟩
  refine subD_of PySem.F.slot_dict_getitem.lookup hs (thn (ho.run pins s σ H _ I h) fun u s1 ⟨x, H1, I1, rx, q1⟩ => thn (hi.run pins s1 σ H1 _ I1 q1) fun iv s2 ⟨y, H2, I2, ry, a, b, kvs, k, v, ex, ey, ⟨nm, xs, d1, d2⟩, n, kd, hv, q2⟩ => ?_)
  subst ex ey
  obtain rfl : u = Value.ref a := rx
  obtain rfl : iv = Value.ref b := ry
  obtain ⟨dd, z⟩ := dn_of I2.hok d1 d2
  refine ⟨dd.typeIs, ?_⟩
  obtain ⟨w', hw, rw'⟩ := RelO.some_of (v := v) (o := (atKey xs k).map (·.2)) (by rw [← hv]; exact ent_val d2 k)
  obtain ⟨p, hp, hp2⟩ := Option.map_eq_some_iff.mp hw
  refine wpAny_getItem_heap (room_in1 hu) (key_is I2.hok n kd) dd hp ?_
  rw [hp2]
  exact ⟨v, H2, I2.tok _, rw', q2⟩
theorem pc_inN (hu : X.A.units + 64 < cLine) (hi : PE X i ty) (ho : PE X o td) : PC X .In i o (tInN X false ty td) := by
  refine ⟨fun pins s σ H Q I h => ?_⟩
  refine thn (hi.run pins s σ H _ I h) fun iv s1 ⟨y, H1, I1, ry, q1⟩ => thn (ho.run pins s1 σ H1 _ I1 q1) fun u s2 ⟨x, H2, I2, rx, a, b, kvs, k, ex, ey, ⟨nm, xs, d1, d2⟩, n, kd, q2⟩ => ?_
  subst ex ey
  obtain rfl : u = Value.ref a := rx
  obtain rfl : iv = Value.ref b := ry
  obtain ⟨dd, z⟩ := dn_of I2.hok d1 d2
  refine wpAny_in_heap (room_in1 hu) (key_is I2.hok n kd) nm dd ⟨.bl (atKey xs k).isSome, H2, I2.tok _, rfl, ?_⟩
  have e := (ent_val d2 k).isSome_eq
  rw [Option.isSome_map] at e
  rw [← e]
  exact q2
theorem pc_notinN (hu : X.A.units + 64 < cLine) (hi : PE X i ty) (ho : PE X o td) : PC X .NotIn i o (tInN X true ty td) := by
  refine ⟨fun pins s σ H Q I h => ?_⟩
  refine thn (hi.run pins s σ H _ I h) fun iv s1 ⟨y, H1, I1, ry, q1⟩ => thn (ho.run pins s1 σ H1 _ I1 q1) fun u s2 ⟨x, H2, I2, rx, a, b, kvs, k, ex, ey, ⟨nm, xs, d1, d2⟩, n, kd, q2⟩ => ?_
  subst ex ey
  obtain rfl : u = Value.ref a := rx
  obtain rfl : iv = Value.ref b := ry
  obtain ⟨dd, z⟩ := dn_of I2.hok d1 d2
  refine wpAny_notIn_heap (room_in1 hu) (key_is I2.hok n kd) nm dd ⟨.bl (!(atKey xs k).isSome), H2, I2.tok _, rfl, ?_⟩
  have e := (ent_val d2 k).isSome_eq
  rw [Option.isSome_map] at e
  rw [← e]
  exact q2
/-- d[k] = v -/
def sPutN (X : Cx) (td ty tv : TE) : TS := fun D σ H => tv σ H fun v H1 => td σ H1 fun x H2 => ty σ H2 fun y H3 => ∃ a b kvs k, x = .ref a ∧ y = .ref b ∧ DN X.prog X.w H3 a kvs ∧ NV H3 k (.ref b) ∧ k.depth ≤ 8 ∧ kvs.length < sizeLine ∧
  ∀ H4, (∀ c, c ≠ a → H4 c = H3 c) → DN X.prog X.w H4 a (putK kvs k v) → H4 a ≠ none → D.nx σ H4
theorem ps_putN (hu : X.A.units + 64 < cLine) (ho : PE X o td) (hi : PE X i ty) (hv : PE X value tv) (hs : swapsWith value (some (.Subscript o i pos')) pos.line X.env = pure false) :
    PS X (.Assign [.Subscript o i pos'] value pos) (sPutN X td ty tv) := by
  refine ⟨fun pins s σ H D I h => ?_⟩
  refine wpAny_Assign_Subscript (thn (hv.run pins s σ H _ I h) fun r s1 ⟨v, H1, I1, rv, q1⟩ => thn (ho.run pins s1 σ H1 _ I1 q1) fun u s2 ⟨x, H2, I2, rx, q2⟩ => thn (hi.run pins s2 σ H2 _ I2 q2) fun iv s3 ⟨y, H3, I3, ry, a, b, kvs, k, ex, ey, ⟨nm, xs, d1, d2⟩, n, kd, hl, q3⟩ => ?_) hs
  subst ex ey
  obtain rfl : u = Value.ref a := rx
  obtain rfl : iv = Value.ref b := ry
  obtain ⟨dd, z⟩ := dn_of I3.hok d1 d2
  refine wpAny_setItem_heap (hsz := z) (room_in1 hu) (key_is I3.hok n kd) dd fun h' dd' hs => ?_
  have ep := ent_put d2 k n kd (y := v) (u := r) rv
  have hl' : (storedH xs k b r).length ≤ sizeLine := by
    rw [← Paired.length ep]
    have := length_putK kvs k v
    omega
  have tk : ∀ c ys, H3 c = some (.tup ys) → upd H3 a (.ext (Dφ X.prog X.w a (storedH xs k b r))) c = some (.tup ys) := fun c ys e => by
    rw [upd_ne (ne_of e d1 (fun z => nomatch z))]
    exact e
  have he : ∃ q, h'.get? a = some q := let ⟨q, _, _, hq, _⟩ := dd'; ⟨q, hq⟩
  refine ⟨σ, _, d_write (ob := .ext (Dφ X.prog X.w a (storedH xs k b r))) I3 (by rw [d1]; exact True.intro) hs he (dn_ok dd' hl'), ?_⟩
  exact q3 _ (fun c hc => upd_ne hc) ⟨nm, _, upd_same, Paired.mapP ep fun p q e => ⟨e.1, e.2.1.to tk, e.2.2⟩⟩ (by rw [upd_same]; exact fun z => nomatch z)
/-- len(d) -/
theorem call_lenN : CallR X (.builtin "len") (fun xs H Q => ∃ a kvs, xs = [.ref a] ∧ DN X.prog X.w H a kvs ∧ Q (.int (kvs.length : Int)) H) := by
  intro pins s σ H xs us Q I r h
  obtain ⟨a, kvs, rfl, ⟨nm, ys, d1, d2⟩, q⟩ := h
  obtain ⟨u, rfl, ru⟩ := vals1 r
  obtain rfl : u = Value.ref a := ru
  obtain ⟨dd, z⟩ := dn_of I.hok d1 d2
  have hl : kvs.length = ys.length := Paired.length d2
  have hn := line63
  refine call_len_dictH nm dd (by omega) ⟨.int (kvs.length : Int), H, I.tok _, ⟨s.toks + 1, ?_⟩, q⟩
  rw [hl]
end

/-! ### keys numbered as they come -/
section
variable {κ : Type} [DecidableEq κ]
def dictFrom : Nat → List κ → List (κ × V)
  | _, [] => []
  | n, k :: r => (k, .int (n : Int)) :: dictFrom (n + 1) r
theorem dictFrom_len : ∀ (l : List κ) (n : Nat), (dictFrom n l).length = l.length
  | [], _ => rfl
  | _ :: l, n => congrArg (· + 1) (dictFrom_len l (n + 1))
theorem dictFrom_snoc (k : κ) : ∀ (l : List κ) (n : Nat), dictFrom n (l ++ [k]) = dictFrom n l ++ [(k, .int ((n + l.length : Nat) : Int))]
  | [], n => rfl
  | x :: l, n => by
    show (x, V.int (n : Int)) :: dictFrom (n + 1) (l ++ [k]) = (x, V.int (n : Int)) :: (dictFrom (n + 1) l ++ [(k, .int ((n + (x :: l).length : Nat) : Int))])
    rw [dictFrom_snoc k l (n + 1), List.length_cons, Nat.add_right_comm n 1, Nat.add_assoc]
theorem valV_dictFrom (k : κ) : ∀ (l : List κ) (n : Nat), valV (dictFrom n l) k = if k ∈ l then some (.int ((n + l.idxOf k : Nat) : Int)) else none
  | [], _ => rfl
  | x :: l, n => by
    show valV ((x, V.int (n : Int)) :: dictFrom (n + 1) l) k = _
    by_cases e : x = k
    · subst e
      rw [valV_pos rfl, if_pos List.mem_cons_self]
      simp
    · rw [valV_neg e, valV_dictFrom k l (n + 1)]
      by_cases h : k ∈ l
      · rw [if_pos h, if_pos (List.mem_cons_of_mem _ h), List.idxOf_cons]
        simp only [beq_eq_false_iff_ne.mpr e, cond_false]
        congr 2
        omega
      · rw [if_neg h, if_neg (by simp [h, Ne.symm e])]
theorem putK_dictFrom {k : κ} {l : List κ} {n : Nat} (h : k ∉ l) : putK (dictFrom n l) k (.int ((n + l.length : Nat) : Int)) = dictFrom n (l ++ [k]) := by
  unfold putK
  rw [valV_any, valV_dictFrom, if_neg h, dictFrom_snoc]
  rfl
/-- the different ones, as they come -/
def addSeen (seen : List κ) (m : κ) : List κ := if m ∈ seen then seen else seen ++ [m]
def seenOf (ms : List κ) : List κ := ms.foldl addSeen []
theorem seenOf_snoc (ms : List κ) (m : κ) : seenOf (ms ++ [m]) = addSeen (seenOf ms) m := by
  unfold seenOf
  rw [List.foldl_append]
  rfl
theorem addSeen_mem (seen : List κ) (m : κ) : m ∈ addSeen seen m := by
  unfold addSeen
  split
  · assumption
  · simp
theorem addSeen_pre (seen : List κ) (m : κ) : ∃ t, addSeen seen m = seen ++ t := by
  unfold addSeen
  split
  · exact ⟨[], by simp⟩
  · exact ⟨[m], rfl⟩
theorem foldl_pre (ms : List κ) : ∀ seen : List κ, ∃ t, ms.foldl addSeen seen = seen ++ t := by
  induction ms with
  | nil => exact fun seen => ⟨[], by simp⟩
  | cons m ms ih =>
    intro seen
    obtain ⟨t1, e1⟩ := addSeen_pre seen m
    obtain ⟨t2, e2⟩ := ih (addSeen seen m)
    exact ⟨t1 ++ t2, by rw [List.foldl_cons, e2, e1, List.append_assoc]⟩
theorem mem_seenOf (ms : List κ) : ∀ m, m ∈ seenOf ms ↔ m ∈ ms := by
  have all : ∀ (ms seen : List κ) (m : κ), m ∈ ms.foldl addSeen seen ↔ m ∈ seen ∨ m ∈ ms := by
    intro ms
    induction ms with
    | nil => intro seen m; simp
    | cons x ms ih =>
      intro seen m
      rw [List.foldl_cons, ih]
      unfold addSeen
      by_cases h : x ∈ seen
      · rw [if_pos h, List.mem_cons]
        constructor
        · rintro (h1 | h1)
          · exact .inl h1
          · exact .inr (.inr h1)
        · rintro (h1 | rfl | h1)
          · exact .inl h1
          · exact .inl h
          · exact .inr h1
      · rw [if_neg h, List.mem_append, List.mem_singleton, List.mem_cons, or_assoc]
  intro m
  unfold seenOf
  rw [all]
  simp
theorem seenOf_nodup (ms : List κ) : (seenOf ms).Nodup := by
  have all : ∀ (ms seen : List κ), seen.Nodup → (ms.foldl addSeen seen).Nodup := by
    intro ms
    induction ms with
    | nil => exact fun _ h => h
    | cons x ms ih =>
      intro seen h
      refine ih _ ?_
      unfold addSeen
      split
      · exact h
      · rename_i hx
        rw [List.nodup_append]
        exact ⟨h, by simp, fun a ha b hb => by rw [List.mem_singleton.mp hb]; exact fun e => hx (e ▸ ha)⟩
  exact all ms [] List.nodup_nil
theorem idxOf_pre {seen t : List κ} {m : κ} (h : m ∈ seen) : (seen ++ t).idxOf m = seen.idxOf m := by
  rw [List.idxOf_append, if_pos h]
def numb (ms : List κ) : List Nat := ms.map fun m => (seenOf ms).idxOf m
theorem numb_len (ms : List κ) : (numb ms).length = ms.length := List.length_map _
/-- one more -/
theorem numb_snoc (ms : List κ) (m : κ) : numb (ms ++ [m]) = numb ms ++ [(addSeen (seenOf ms) m).idxOf m] := by
  unfold numb
  rw [List.map_append, seenOf_snoc]
  refine congrArg (· ++ _) (List.map_congr_left fun x hx => ?_)
  obtain ⟨t, e⟩ := addSeen_pre (seenOf ms) m
  rw [e, idxOf_pre ((mem_seenOf ms x).mpr hx)]
theorem seenOf_len (ms : List κ) : (seenOf ms).length ≤ ms.length := by
  have all : ∀ (ms seen : List κ), (ms.foldl addSeen seen).length ≤ seen.length + ms.length := by
    intro ms
    induction ms with
    | nil => intro _; exact Nat.le_refl _
    | cons x ms ih =>
      intro seen
      have h := ih (addSeen seen x)
      have h2 : (addSeen seen x).length ≤ seen.length + 1 := by
        unfold addSeen
        split
        · omega
        · simp
      rw [List.foldl_cons, List.length_cons]
      omega
  have := all ms []
  rw [List.length_nil, Nat.zero_add] at this
  exact this
theorem idxOf_map_inj {α : Type} [DecidableEq α] (f : α → κ) (hf : ∀ a b, f a = f b → a = b) (a : α) : ∀ l : List α, (l.map f).idxOf (f a) = l.idxOf a
  | [] => rfl
  | x :: l => by
    rw [List.map_cons, List.idxOf_cons, List.idxOf_cons, idxOf_map_inj f hf a l]
    by_cases e : x = a
    · rw [e, beq_self_eq_true, beq_self_eq_true]
    · rw [beq_eq_false_iff_ne.mpr e, beq_eq_false_iff_ne.mpr fun z => e (hf _ _ z)]
end
end QD
end

section
set_option Elab.async false
set_option linter.all false
set_option maxRecDepth 100000
set_option maxHeartbeats 2000000
/-! sorted(range(n), key=lambda number: -len(rows[number][0])) -/
namespace QL
open PySem PySem.Spec PyProof.Rows L2

abbrev lamArgs (x : Str) (p : Pos) : Arguments := { posonlyargs := [], args := [{ arg := x, annotation := none, pos := p }], vararg := none, kwonlyargs := [], kw_defaults := [], kwarg := none, defaults := [] }
abbrev lamBody (x rows : Str) (p1 p2 p3 p4 p5 p6 p7 p8 : Pos) : Expr :=
  .UnaryOp .USub (.Call (.Name "len" p1) [.Subscript (.Subscript (.Name rows p2) (.Name x p3) p4) (.Constant (.int 0) 0 p5) p6] [] p7) p8
abbrev lamScope (x rows : Str) : Scope := { kind := .function, names := [(x, .local), (rows, .free), ("len", .globalImplicit)], isGenerator := false, isCoroutine := false, more := [] }

theorem ls_x : (lamScope ("number" : Str) ("standings" : Str)).names.lookup ("number" : Str) = some .local := by decide +kernel
theorem ls_r : (lamScope ("number" : Str) ("standings" : Str)).names.lookup ("standings" : Str) = some .free := by decide +kernel
theorem ls_l : (lamScope ("number" : Str) ("standings" : Str)).names.lookup ("len" : Str) = some .globalImplicit := by decide +kernel
theorem ls_c : ∀ x ∈ (lamScope ("number" : Str) ("standings" : Str)).names, x.2 ≠ .cell := by decide +kernel
theorem isList_keeps {h h' : Heap} {a : Addr} {xs : Array Value} (x : h.IsList a xs) (k : ∀ b o, h.get? b = some o → h'.get? b = some o) : h'.IsList a xs := by
  obtain ⟨o, ho, r⟩ := x
  exact ⟨o, k _ _ ho, r⟩
section
variable {prog : Program} {w : World} {A : Around} {s : Shared} {mg mb : Str → Option Value} {f c c' a t wd : Addr} {q : Str} {cl : List (Str × Addr)} {pm ctv : Value} {p0 p1 p2 p3 p4 p5 p6 p7 p8 : Pos} {its tits wits : List Value} {n : Nat} {tk : Tok}
theorem body_runs {env : Env} {E : Value → Shared → Prop} {Q : Value → Shared → Prop}
    (hk : env.scope.kind = .function) (hgl : env.globals = mainGlobals) (hbl : env.builtins = builtinsNs) (k1 : env.kindOf "number" = some .local) (k2 : env.kindOf "standings" = some .free) (k3 : env.kindOf "len" = some .globalImplicit)
    (hn : s.heap.Ns env.locals fun y => if y = ("number" : Str) then some (.int n tk) else none) (hc : env.cells.lookup ("standings" : Str) = some c) (hcell : s.heap.IsCell c (some (.ref a)))
    (hg : s.heap.Ns mainGlobals mg) (hm : mg ("len" : Str) = none) (hb : s.heap.Ns builtinsNs mb) (hv : mb ("len" : Str) = some (.builtin "len"))
    (hl : s.heap.IsList a its.toArray) (hi : its[n]? = some (.ref t)) (ht : IsTup s.heap t tits.toArray) (hw : tits[0]? = some (.ref wd)) (hwl : s.heap.IsList wd wits.toArray)
    (hz : its.length ≤ sizeLine) (hzt : tits.length ≤ sizeLine) (hz2 : wits.length ≤ sizeLine)
    (hQ : ∀ tk t', Q (.int (-(wits.length : Int)) t') { s with toks := tk }) :
    wpAny (model prog w) A (eval (lamBody ("number" : Str) ("standings" : Str) p1 p2 p3 p4 p5 p6 p7 p8) env) Q E s := by
  have hn63 := line63
  refine UnaryOp_ ?_
  refine wpAny_Call_Name_kw (Calls.Name_function_global hk k3 (Calls.loadGlobal_builtin (by rw [hgl]; exact hg) hm (by rw [hbl]; exact hb) hv ?_))
  refine PyProof.Rows.callWith_builtin1 (args_cons ?_) (by rfl) (by rfl)
  refine Subscript_ (Subscript_ ?_)
  refine wpAny_Name (wpAny_loadName_free hk k2 hc hcell ?_)
  refine wpAny_Name (wpAny_loadName_local (v := .int n tk) hk k1 hn (by rw [if_pos rfl]) ?_)
  have hlt : n < its.length := (List.getElem?_eq_some_iff.mp hi).1
  refine item_listR hl (by omega) (by omega) (x := .ref t) (by simpa using hi) ?_
  refine wpAny_Constant_int ?_
  have h0 : 0 < tits.length := (List.getElem?_eq_some_iff.mp hw).1
  refine subscriptTail_builtinR (x := .ref wd) ht.typeIs slot_tuple_getitem.lookup
    (getItem_tuple (j := 0) (Q := fun r s' => r = .ref wd ∧ _) ht (by omega) (by omega) (by rw [List.size_toArray]; exact seqIndex_of (Int.le_refl 0) (by omega)) (by simpa using hw) ⟨rfl, ?_⟩)
  refine args_nil ?_
  refine Calls.call_len_list hwl (by rw [List.size_toArray]; omega) ?_
  refine neg_int ?_
  rw [List.size_toArray]
  exact hQ _ _

/-- the lambda called -/
theorem lam_call (hf : s.heap.get? f = some (PySem.W.kla_obj "<lambda>" q (lamArgs ("number" : Str) p0) (lamBody ("number" : Str) ("standings" : Str) p1 p2 p3 p4 p5 p6 p7 p8) (lamScope ("number" : Str) ("standings" : Str)) cl pm c' ctv))
    (hcd : s.heap.CodeRec (.ref c') q) (hroom : A.depth < recursionLimit) (hlim : s.heap.NoLimit)
    (hc : cl.lookup ("standings" : Str) = some c) (hcell : s.heap.IsCell c (some (.ref a)))
    (hg : s.heap.Ns mainGlobals mg) (hm : mg ("len" : Str) = none) (hb : s.heap.Ns builtinsNs mb) (hv : mb ("len" : Str) = some (.builtin "len"))
    (hl : s.heap.IsList a its.toArray) (hi : its[n]? = some (.ref t)) (ht : IsTup s.heap t tits.toArray) (hw : tits[0]? = some (.ref wd)) (hwl : s.heap.IsList wd wits.toArray)
    (hz : its.length ≤ sizeLine) (hzt : tits.length ≤ sizeLine) (hz2 : wits.length ≤ sizeLine) :
    wpAny (model prog w) A (call (.ref f) [.int n tk]) (PySem.W.KeyPure (.int (-(wits.length : Int))) s) (fun _ _ => False) s := by
  refine wpAny_call ?_
  refine PySem.W.kla_callFunE hroom hf rfl rfl rfl rfl hcd ?_
  have eb : bindArgs (PySem.W.kla_fn "<lambda>" q (lamArgs ("number" : Str) p0) (lamBody ("number" : Str) ("standings" : Str) p1 p2 p3 p4 p5 p6 p7 p8) (lamScope ("number" : Str) ("standings" : Str)) cl pm (.ref c') ctv) ⟨[.int n tk], []⟩ = pure [(("number" : Str), .int n tk)] := rfl
  rw [eb]
  refine wpAny_pure (wpAny_newFunctionEnv ls_c (fun y hy => by
    rw [List.mem_singleton.mp hy]
    exact ls_x) (fun h₁ hns hsb => ⟨hlim.fresh _ hsb, ?_⟩) rfl)
  have kp : ∀ b o, s.heap.get? b = some o → h₁.get? b = some o := fun b o e => hsb.extBut b o (Nat.ne_of_lt (Heap.lt_size e)) (Heap.get?_push_of_some _ e)
  refine PySem.W.kla_codeExpr ?_
  have hns' : h₁.Ns s.heap.objs.size fun y => if y = ("number" : Str) then some (.int n tk) else none := by
    have e : (fun y => ([(("number" : Str), Value.int n tk)] : List (Str × Value)).reverse.lookup y) = fun y => if y = ("number" : Str) then some (.int n tk) else none := by
      funext y
      show List.lookup y [(("number" : Str), Value.int n tk)] = _
      rw [List.lookup_cons]
      by_cases hy : y = ("number" : Str)
      · rw [if_pos hy, hy]; simp
      · rw [if_neg hy, beq_eq_false_iff_ne.mpr hy]; rfl
    rw [← e]
    exact hns
  refine body_runs (s := { s with heap := h₁, toks := s.toks + 1 }) rfl rfl rfl ls_x ls_r ls_l hns' hc ?_ (hg.keeps kp) hm (hb.keeps kp) hv (isList_keeps hl kp) hi (ht.keeps kp) hw (isList_keeps hwl kp) hz hzt hz2 fun tk2 t2 => ?_
  · obtain ⟨o, ho, hd⟩ := hcell
    exact ⟨o, kp _ _ ho, hd⟩
  · exact ⟨h₁, tk2, rfl, kp, .int _ _⟩
end

section
variable {prog : Program} {w : World} {A : Around} {E : Value → Shared → Prop} {s : Shared} {r f : Addr} {t u v : Tok} {n : Nat}
abbrev IsN (x : Value) (i : Nat) : Prop := ∃ t, x = .int (i : Int) t
theorem each_ints {R : Value → Nat → Prop} : ∀ (l : List Value) (k : Nat), (∀ j x, l[j]? = some x → R x (k + j)) → PySem.W.EachIs R l (List.range' k l.length)
  | [], k, _ => .nil
  | x :: l, k, h => by
    rw [List.length_cons, List.range'_succ]
    refine .cons (by simpa using h 0 x rfl) (each_ints l (k + 1) fun j y e => ?_)
    have := h (j + 1) y (by simpa using e)
    rwa [Nat.add_assoc, Nat.add_comm 1 j]
theorem sorted_range_key {Q : Value → Shared → Prop} (key : Nat → Int) (hh : A.handled = none) (hr : IsRange s.heap r 0 (n : Int) 1 t u v) (hn : n ≤ 100000) (hu : A.units + 10 < cLine)
    (turn : ∀ (i : Nat) (tk : Tok), i < n → ∀ (h : Heap) (tk0 : Nat), (∀ b o, s.heap.get? b = some o → h.get? b = some o) →
      wpAny (model prog w) A.in1.in1 (call (.ref f) [.int i tk]) (PySem.W.KeyPure (.int (key i)) { s with heap := h, toks := tk0 }) (fun _ _ => False) { s with heap := h, toks := tk0 })
    (h : ∀ (out : List Value) (c : Nat) (h1 h' : Heap) (tk : Nat), (∀ b o, s.heap.get? b = some o → h1.get? b = some o) → (∀ b o, h1.get? b = some o → h'.get? b = some o) → h'.get? h1.objs.size = some (seqObj "list" out.toArray c) →
      PySem.W.EachIs IsN out ((List.range n).mergeSort fun i j => decide (key i ≤ key j)) → Q (.ref h1.objs.size) { s with heap := h', toks := tk }) :
    wpAny (model prog w) A (call (.builtin "sorted") [.ref r] [(Str.ofString "key", .ref f)]) Q E s := by
  have hsz := sizeLine_eq
  refine call_function_entry_kw kind_sorted plain_sorted entry_sorted (ksk_s1 _ _) ?_
  unfold Builtin.«sorted»
  refine wpAny_bind (m := checkCount "sorted" 1 1 _) (wpAny_pure ?_)
  have hrs : Builtin.Range.rangeSize 0 (n : Int) 1 = n := by
    unfold Builtin.Range.rangeSize
    simp
    omega
  have hsm : Builtin.Range.small 0 (n : Int) 1 = true := by
    unfold Builtin.Range.small
    rw [hrs]
    simp [Builtin.Range.rangeFitsLong]
    omega
  refine wpAny_bind (collect_range (A := A.in1) hh hr hsm hrs (by omega) fun h1 tk1 acc k1 hi => ?_)
  have hal : acc.toList.length = n := by rw [Array.length_toList]; exact hi.1
  refine wpAny_bind (wpAny_newList ?_ (by rw [hal]; omega))
  have hL : (h1.push (seqObj "list" acc.toList.toArray 0)).get? h1.objs.size = some (seqObj "list" acc.toList.toArray 0) := Heap.get?_push_size _ rfl
  have k2 : ∀ b o, s.heap.get? b = some o → (h1.push (seqObj "list" acc.toList.toArray 0)).get? b = some o := fun b o e => Heap.get?_push_of_some _ (k1 b o e)
  have ebs : PySem.W.EachIs IsN acc.toList (List.range n) := by
    have e := each_ints (R := IsN) acc.toList 0 fun j x hx => ?_
    · rw [hal, ← List.range_eq_range'] at e
      exact e
    · obtain ⟨t, ht⟩ := hi.2 j x (by simpa using hx)
      exact ⟨t, by rw [ht, Int.mul_one, Int.zero_add, Nat.zero_add]⟩
  refine wpAny_bind (wpAny_holding (wpAny_call_entry_kw slot_list_sort ⟨_, hL, rfl⟩ entry_list_sort ?_ (ksk_l1 _ _)))
  rw [ksk_t1]
  have up : ∀ {g : Heap}, PySem.W.KeepsBut h1.objs.size (h1.push (seqObj "list" acc.toList.toArray 0)) g → ∀ b o, h1.get? b = some o → g.get? b = some o := fun {g} kp b o e =>
    kp b o (Nat.ne_of_lt (Heap.lt_size e)) (Heap.get?_push_of_some _ e)
  refine PySem.W.keyH_tree (kz := (List.range n).map fun i => PyData.int (key i)) hL (by rw [List.length_map, List.length_range, hal]) (by rw [hal]; omega) (PySem.W.AllAlike.of fun i j => rfl) (PySem.W.Sortable.others fun i => ⟨(fun z => nomatch z), fun xs z => nomatch z⟩) (fun d hd => ?_)
    (PySem.W.keyH_turns (s := { s with heap := h1.push (seqObj "list" acc.toList.toArray 0), toks := tk1 }) (k := fun i => PyData.int (key i)) ebs fun x i hR hx h2 tk2 kp => ?_) fun h2 tk2 out c kp hD ko => ⟨_, rfl, ?_⟩
  · obtain ⟨i, _, rfl⟩ := List.mem_map.mp hd
    show A.units + 1 + 1 + 0 < cLine
    omega
  · obtain ⟨t, rfl⟩ := hR
    exact turn i t (List.mem_range.mp hx) h2 tk2 fun b o e => up kp b o (k1 b o e)
  · refine wpAny_pure ⟨_, rfl, ?_⟩
    have e := PySem.W.keyedOut_each _ ko ebs
    rw [PySem.W.dataLe_int] at e
    exact h out c h1 h2 tk2 k1 (up kp) hD e
end

section
open LamX
variable {X : Cx}
theorem pe_range1 {p pos : Pos} {e : Expr} {te : TE} (hg : Gl X "range") (hm : X.mg "range" = none) (he : PE X e te) (hs : starEach [e] X.env = (false, eval e X.env) :: starEach [] X.env := by rfl) : PE X (.Call (.Name "range" p) [e] [] pos) (tCB (fun vs H Q => ∃ j : Int, vs = [V.int j] ∧ ∀ q, H q = none → Q (.ref q) (upd H q (.rng 0 j))) (tCons te tNil)) :=
  pe_callTy (T := "range") (fun pins s σ H vs us Q I r h => by
    obtain ⟨j, rfl, q⟩ := h
    obtain ⟨u1, rfl, rj⟩ := vals1 r
    obtain ⟨u, rfl⟩ := rj
    refine call_range_1 ⟨.ref s.heap.objs.size, upd H s.heap.objs.size (.rng 0 j), I.laid (t' := s.toks + 1 + 1) (fun b o e => Heap.get?_push_of_some _ e) (Nat.le_refl _) ?_, rfl, q _ (I.hok.fresh (Nat.le_refl _))⟩
    exact ⟨s.toks, u, s.toks + 1, Heap.get?_push_size _ rfl⟩) hg hm (by decide +kernel) (pa_cons he pa_nil (hs := hs)) (he := hs)

/-- sorted(range(..), key=lambda number: -len(rows[number][0])), the rows in slot i, a cell -/
def tSortLam (T : List (Addr × Str)) (K : PySem.W.Frag) (i : Nat) (ti : TE) : TE := fun σ H Q => ti σ H fun x H1 => ∃ (r : Addr) (n : Nat) (a : Addr) (ts : List Addr) (key : Nat → Int), x = .ref r ∧ H1 r = some (.rng 0 (n : Int)) ∧ n ≤ 100000 ∧ σ[i]? = some (some (.ref a)) ∧
  SqL K H1 a (ts.map V.ref) ∧ ts.length = n ∧ (∀ (j : Nat) (t : Addr), ts[j]? = some t → ∃ (wd : Addr) (more xs : List V), SqT K H1 t (.ref wd :: more) ∧ SqL K H1 wd xs ∧ key j = -(xs.length : Int)) ∧ Tabs T H1 ∧
  ∀ (p : Addr) (H2 : Hp), ExtN H1 H2 → Tabs T H2 → H2 p = none → Q (.ref p) (upd H2 p (.lst (((List.range n).mergeSort fun i j => decide (key i ≤ key j)).map fun (j : Nat) => V.int (j : Int))))
theorem sqL_ext {K : PySem.W.Frag} {H H' : Hp} {a : Addr} {xs : List V} (e : ExtN H H') (h : SqL K H a xs) : SqL K H' a xs := by
  rcases h with (h | ⟨o, h⟩) | h
  · exact .inl (.inl (e _ _ h fun ps z => nomatch z))
  · exact .inl (.inr ⟨o, e _ _ h fun ps z => nomatch z⟩)
  · exact .inr h
theorem sqT_ext {K : PySem.W.Frag} {H H' : Hp} {a : Addr} {xs : List V} (e : ExtN H H') (h : SqT K H a xs) : SqT K H' a xs := by
  rcases h with (h | ⟨o, h⟩) | h
  · exact .inl (.inl (e _ _ h fun ps z => nomatch z))
  · exact .inl (.inr ⟨o, e _ _ h fun ps z => nomatch z⟩)
  · exact .inr h
theorem vals_of_each : ∀ (l : List Value) (ns : List Nat), PySem.W.EachIs IsN l ns → Vals (ns.map fun (j : Nat) => V.int (j : Int)) l
  | _, _, .nil => .nil
  | _, _, .cons h t => .cons h (vals_of_each _ _ t)
theorem pe_sortLam {T : List (Addr × Str)} {i : Nat} {iter : Expr} {ti : TE} {c P : Addr} {k : Nat} {q1 kpos lpos pos p0 p1 p2 p3 p4 p5 p6 p7 p8 : Pos} (hg : Gl X "sorted") (hm : X.mg "sorted" = none) (hmL : X.mg "len" = none) (hi : PE X iter ti)
    (hN : X.N[i]? = some ("standings" : Str)) (hcl : X.env.scope.names.lookup ("standings" : Str) = some .cell) (TB : TabB X.base X.mg c P) (hcode : X.env.code = .ref c) (hmT : (P, X.env.qual ++ "<lambda>") ∈ T) (hu : ∀ p ∈ T, p.1 = P → p.2 = X.env.qual ++ "<lambda>") (hr : Room k X.A)
    (he : backTo pos (starEach [iter] X.env) = (false, eval iter X.env) :: backTo pos (starEach [] X.env) := by rfl) (hpl : (backTo pos (starEach [iter] X.env)).any (·.1) = false := by rfl) :
    PE X (.Call (.Name "sorted" q1) [iter] [⟨some "key", .Lambda (lamArgs ("number" : Str) p0) (lamBody ("number" : Str) ("standings" : Str) p1 p2 p3 p4 p5 p6 p7 p8) (lamScope ("number" : Str) ("standings" : Str)) lpos, kpos⟩] pos) (tSortLam T X.K i ti) := by
  refine ⟨fun pins s σ H Q I h => ?_⟩
  refine wpAny_Call_Name_kw (ld_blt I hg hm (u := .builtin "sorted") (by decide +kernel) ?_)
  refine PyProof.Rows.callWith_kw ?_ he hpl rfl rfl
  rw [he]
  refine Calls.spliced_cons (thn (hi.run pins s σ H _ I h) fun u s1 ⟨x, H1, I1, r1, q1⟩ => ?_)
  obtain ⟨r, n, a, ts, key, rfl, hrg, hn, hσ, hS, hlen, hrows, hT, q⟩ := q1
  obtain rfl : u = Value.ref r := r1
  refine Calls.spliced_nil ?_
  show wpAny _ _ (evalAll [do let v ← eval (.Lambda (lamArgs ("number" : Str) p0) (lamBody ("number" : Str) ("standings" : Str) p1 p2 p3 p4 p5 p6 p7 p8) (lamScope ("number" : Str) ("standings" : Str)) lpos) X.env; standAt pos; pure v]) _ _ s1
  have hfree : ∀ y ∈ (lamScope ("number" : Str) ("standings" : Str)).names, y.2 = NameKind.free → ∃ c, X.env.cells.lookup y.1 = some c := fun y hy e => by
    have hy1 : y = (("standings" : Str), NameKind.free) := by
      rcases List.mem_cons.mp hy with rfl | hy
      · cases e
      · rcases List.mem_cons.mp hy with rfl | hy
        · rfl
        · rw [List.mem_singleton.mp hy] at e
          cases e
    rw [hy1]
    exact I1.ok.has _ (.inl hcl)
  refine wpAny_evalAll_cons (wpAny_bind (lam_make2 I1 TB hcode hmT hu hT rfl hfree fun f c' pm ctv H2 s2 I2 e2 T2 hf hfn hfr hco => wpAny_bind (wpAny_standAt (wpAny_pure (wpAny_evalAll_nil ?_)))))
  -- the def's cell of rows
  have hcell : ∃ c2, X.env.cells.lookup ("standings" : Str) = some c2 ∧ s2.heap.IsCell c2 (some (.ref a)) := by
    obtain ⟨m, hn2, hl⟩ := I2.loc
    obtain ⟨w2, rv, l⟩ := hl i ("standings" : Str) _ hN hσ (.inr (.inl hcl))
    obtain rfl : w2 = Value.ref a := rv
    rcases l with ⟨hk, _⟩ | ⟨_, c2, h1, h2⟩
    · have hk : X.env.scope.names.lookup ("standings" : Str) = some .local := hk
      rw [hcl] at hk
      cases hk
    · exact ⟨c2, h1, h2⟩
  obtain ⟨c2, hc2, hcell⟩ := hcell
  have hcl2 : (cloFrom X.env.cells (lamScope ("number" : Str) ("standings" : Str)).names []).lookup ("standings" : Str) = some c2 := NdefX.clo_has hfree (by decide +kernel) hc2
  obtain ⟨mb, hb1, hb2⟩ := I2.mod.blt
  have rg2 : H2 r = some (.rng 0 (n : Int)) := e2 _ _ hrg fun ps z => nomatch z
  obtain ⟨t1, t2, t3, hrr⟩ := (show ObjOk X.prog X.w H2 s2.heap r (.rng 0 (n : Int)) from I2.hok r _ rg2)
  obtain ⟨its, rv, pl, hz⟩ := I2.list (sqL_ext e2 hS)
  have hun := hr.un
  have hdp := hr.dp
  refine sorted_range_key (f := f) key hr.hd hrr hn (by omega) (fun j tk hj h0 tk0 k0 => ?_) fun out cc h1 h' tk k1 k2 hD hE => ?_
  · have hjt : j < ts.length := by omega
    obtain ⟨wd, more, xs, ht, hw, hkey⟩ := hrows j ts[j] (by simp [hjt])
    obtain ⟨tits, rvt, plt, hzt⟩ := I2.tuple (sqT_ext e2 ht)
    obtain ⟨wits, rvw, plw, hzw⟩ := I2.list (sqL_ext e2 hw)
    have hlw := rvw.length
    have hlt := rvt.length
    have hli := rv.length
    obtain ⟨u1, hu1, ru1⟩ := rv.get (i := j) (x := .ref ts[j]) (by rw [List.getElem?_map]; simp [hjt])
    obtain rfl : u1 = Value.ref ts[j] := ru1
    obtain ⟨u2, hu2, ru2⟩ := rvt.get (i := 0) (x := .ref wd) rfl
    obtain rfl : u2 = Value.ref wd := ru2
    rw [hkey, hlw]
    refine lam_call (s := { s2 with heap := h0, toks := tk0 }) (k0 _ _ hf) ?_ (by show X.A.depth < recursionLimit; omega) (I2.nolimit.keeps k0) hcl2 ?_ ((I2.mod.glob.keeps I2.bk).keeps k0) hmL ((hb1.keeps I2.bk).keeps k0) ((hb2 _ (by decide)).trans (by decide +kernel))
      (isList_keeps pl.isList k0) hu1 (plt.keeps k0) hu2 (isList_keeps plw.isList k0) (by omega) (by omega) (by omega)
    · obtain ⟨c3, oc, vs, t, z1, z2, z3, z4⟩ := NdefX.codeO_at I2.hok hco
      exact ⟨c3, oc, vs, t, z1, k0 _ _ z2, z3, z4⟩
    · obtain ⟨o, ho, hd⟩ := hcell
      exact ⟨o, k0 _ _ ho, hd⟩
  · have I3 : Inv X pins σ H2 { s2 with heap := h1 } := I2.kept (t' := s2.toks) k1
    have hl2 : (((List.range n).mergeSort fun i j => decide (key i ≤ key j)).map fun (j : Nat) => V.int (j : Int)).length ≤ sizeLine := by
      rw [List.length_map, List.length_mergeSort, List.length_range, sizeLine_eq]
      omega
    have I4 := I3.laid (a := h1.objs.size) (t' := tk) (h' := h') (o := .lst (((List.range n).mergeSort fun i j => decide (key i ≤ key j)).map fun (j : Nat) => V.int (j : Int))) k2 (Nat.le_refl _) ⟨hl2, out, cc, vals_of_each _ _ hE, hD⟩
    exact ⟨.ref h1.objs.size, _, I4, rfl, q _ H2 e2 T2 (I3.hok.fresh (Nat.le_refl _))⟩
theorem pe_sortLamK (K : PySem.W.Frag) {T : List (Addr × Str)} {i : Nat} {iter : Expr} {ti : TE} {c P : Addr} {k : Nat} {q1 kpos lpos pos p0 p1 p2 p3 p4 p5 p6 p7 p8 : Pos} (hg : Gl X "sorted") (hm : X.mg "sorted" = none) (hmL : X.mg "len" = none) (hi : PE X iter ti)
    (hN : X.N[i]? = some ("standings" : Str)) (hcl : X.env.scope.names.lookup ("standings" : Str) = some .cell) (TB : TabB X.base X.mg c P) (hcode : X.env.code = .ref c) (hmT : (P, X.env.qual ++ "<lambda>") ∈ T) (hu : ∀ p ∈ T, p.1 = P → p.2 = X.env.qual ++ "<lambda>") (hr : Room k X.A) (hK : X.K = K := by rfl)
    (he : backTo pos (starEach [iter] X.env) = (false, eval iter X.env) :: backTo pos (starEach [] X.env) := by rfl) (hpl : (backTo pos (starEach [iter] X.env)).any (·.1) = false := by rfl) :
    PE X (.Call (.Name "sorted" q1) [iter] [⟨some "key", .Lambda (lamArgs ("number" : Str) p0) (lamBody ("number" : Str) ("standings" : Str) p1 p2 p3 p4 p5 p6 p7 p8) (lamScope ("number" : Str) ("standings" : Str)) lpos, kpos⟩] pos) (tSortLam T K i ti) :=
  hK ▸ pe_sortLam hg hm hmL hi hN hcl TB hcode hmT hu hr he hpl
end
end QL
end

section
set_option Elab.async false
set_option linter.all false
set_option maxRecDepth 100000
/-! words, ways, standings in the abstract heap; what is kept -/
namespace QB
open PySem PySem.Spec PyProof.Rows L2 LamX

/-! ### text facts as data -/
/-- a def of the text: where it stands, how it binds -/
structure DefAt (K : PySem.W.Frag) (x qual : Str) (st : Stmt) (ps : List Str) : Type where
  a : Addr
  fd : FuncData
  F : Fun K x qual st a fd
  b : Binds K fd ps []
/-- .. a def of the module, by its name -/
structure TopAt (K : PySem.W.Frag) (mg : Str → Option Value) (x : Str) (st : Stmt) (ps : List Str) : Type extends DefAt K x x st ps where
  mg : mg x = some (.ref a)

section
variable {X : Cx}
theorem pe_gc {x : Str} {v : V} {pos : Pos} (hg : Gl X x) (h : ∃ u, X.mg x = some u ∧ RelV v u) (hd : (x == ("__debug__" : Str)) = false := by decide) : PE X (.Name x pos) (tC v) := by
  obtain ⟨u, hm, r⟩ := h
  exact pe_glob hg hm r hd
end
theorem bo_isinstance : bootBuiltins "isinstance" = some (.builtin "isinstance") := by decide +kernel
theorem bo_abs : bootBuiltins "abs" = some (.builtin "abs") := by decide +kernel
theorem bo_max : bootBuiltins "max" = some (.builtin "max") := by decide +kernel
theorem bo_min : bootBuiltins "min" = some (.builtin "min") := by decide +kernel
theorem bo_sum : bootBuiltins "sum" = some (.builtin "sum") := by decide +kernel
theorem bo_all : bootBuiltins "all" = some (.builtin "all") := by decide +kernel
theorem bo_any : bootBuiltins "any" = some (.builtin "any") := by decide +kernel
theorem bo_len : bootBuiltins "len" = some (.builtin "len") := by decide +kernel
theorem bo_sorted : bootBuiltins "sorted" = some (.builtin "sorted") := by decide +kernel
theorem bo_list : bootBuiltins "list" = some (.type "list") := by decide +kernel
theorem bo_tuple : bootBuiltins "tuple" = some (.type "tuple") := by decide +kernel
theorem bo_int : bootBuiltins "int" = some (.type "int") := by decide +kernel
theorem bo_str : bootBuiltins "str" = some (.type "str") := by decide +kernel
theorem bo_bool : bootBuiltins "bool" = some (.type "bool") := by decide +kernel
theorem bo_range : bootBuiltins "range" = some (.type "range") := by decide +kernel
theorem bo_enumerate : bootBuiltins "enumerate" = some (.type "enumerate") := by decide +kernel
theorem bo_zip : bootBuiltins "zip" = some (.type "zip") := by decide +kernel
theorem bo_dict : bootBuiltins "dict" = some (.type "dict") := by decide +kernel
theorem bo_set : bootBuiltins "set" = some (.type "set") := by decide +kernel
theorem hu64 {A : Around} {k : Nat} (hr : Room k A) : A.units + 64 < cLine := hr.units

/-! ### rules with the written part named -/
section
variable {X : Cx} (K : PySem.W.Frag)
theorem ix_listK (h : X.K = K := by rfl) : IxR X (rIxL K) := h ▸ ix_list
theorem ix_tupK (h : X.K = K := by rfl) : IxR X (rIxT K) := h ▸ ix_tup
def rLen (K : PySem.W.Frag) : List V → Hp → VK → Prop := fun xs H Q => ∃ p ys, xs = [.ref p] ∧ (SqL K H p ys ∨ SqT K H p ys) ∧ Q (.int ys.length) H
theorem call_lenK (h : X.K = K := by rfl) : CallR X (.builtin "len") (rLen K) := h ▸ call_len_seq
def rListOf (K : PySem.W.Frag) : List V → Hp → VK → Prop := fun xs H Q => ∃ p ys, xs = [.ref p] ∧ (SqL K H p ys ∨ SqT K H p ys) ∧ ∀ l, H l = none → Q (.ref l) (upd H l (.lst ys))
theorem call_listK (h : X.K = K := by rfl) : CallR X (.type "list") (rListOf K) := h ▸ call_list_of
def rTupOf (K : PySem.W.Frag) : List V → Hp → VK → Prop := fun xs H Q => ∃ p ys, xs = [.ref p] ∧ ((SqL K H p ys ∧ ∀ l, H l = none → Q (.ref l) (upd H l (.tup ys))) ∨ (SqT K H p ys ∧ Q (.ref p) H))
theorem call_tupleK (h : X.K = K := by rfl) : CallR X (.type "tuple") (rTupOf K) := h ▸ call_tuple_of
theorem call_isiK (h : X.K = K := by rfl) : CallR X (.builtin "isinstance") (rIsi K) := h ▸ call_isi
theorem cr_allK (hc : X.calm = true) (h : X.K = K := by rfl) : CallR X (.builtin "all") (rAll K) := h ▸ cr_all hc
theorem cr_anyK (hc : X.calm = true) (h : X.K = K := by rfl) : CallR X (.builtin "any") (rAny K) := h ▸ cr_any hc
theorem cr_maxK (hc : X.calm = true) (h : X.K = K := by rfl) : CallR X (.builtin "max") (rMax K) := h ▸ cr_max hc
theorem mt_indexK (h : X.K = K := by rfl) : MtR X "list.index" (rIndex K) := h ▸ mt_index
theorem op_inK (h : X.K = K := by rfl) : OpR X (compareOp .In) (rIn K false) := h ▸ op_in_seq
theorem op_notInK (h : X.K = K := by rfl) : OpR X (compareOp .NotIn) (rIn K true) := h ▸ op_notIn_seq
theorem op_eqDK (hu : X.A.units + 64 < cLine) (h : X.K = K := by rfl) : OpR X (compareOp .Eq) (rEqD K) := h ▸ op_eqD hu
theorem op_neDK (hu : X.A.units + 64 < cLine) (h : X.K = K := by rfl) : OpR X (compareOp .NotEq) (rNeD K) := h ▸ op_neD hu
theorem sl_listK (h : X.K = K := by rfl) : SlR X (rSlL K) := h ▸ sl_list
theorem pi_listK {tg l : Expr} {tl : TE} (he : PE X l tl) (h : X.K = K := by rfl) : PI X tg l (iList K tl) := h ▸ pi_list he
theorem pe_fldK {e : Expr} {ta : TE} {f : Str} {pos : Pos} (he : PE X e ta) (hb : attributeBase e f X.env (eval e X.env) = eval e X.env) (h : X.K = K := by rfl) : PE X (.Attribute e f pos) (tFld K ta f) := h ▸ pe_fld he hb
theorem pe_bmK {o e : Expr} {es : List Expr} {to : TE} {t : TA} {name : Str} {apos cpos : Pos} {T id : String} {r : V → List V → Hp → VK → Prop} (pa : PlainAttrs T) (slot : Slot T name id)
    (hty : typeOf (.builtin id) = pure (.type "method_descriptor")) (hm : MtR X id r) (ho : PE X o to) (ha : PA X (e :: es) t) (h : X.K = K := by rfl) (hbase : attributeBase o name X.env (eval o X.env) = eval o X.env := by rfl)
    (hfew : ((backTo cpos (starEach (e :: es) X.env)).all (fun x => !x.1) && (backToKw cpos (keywordEach [] X.env)).all (fun x => x.1.isSome) && decide ((e :: es).length + ([] : List Keyword).length + (if ([] : List Keyword).isEmpty then 0 else 1) < 30)) = true := by rfl)
    (hline : (apos.endLine == cpos.line) = true := by rfl) (hs : starEach (e :: es) X.env = (false, eval e X.env) :: starEach es X.env := by rfl) (hp : (backTo cpos (starEach es X.env)).any (·.1) = false := by rfl) :
    PE X (.Call (.Attribute o name apos) (e :: es) [] cpos) (tBM K T r to t) := h ▸ pe_bm pa slot hty hm ho ha hbase hfew hline hs hp
theorem pe_bm0K {o : Expr} {to : TE} {name : Str} {apos cpos : Pos} {T id : String} {r : V → List V → Hp → VK → Prop} (pa : PlainAttrs T) (slot : Slot T name id)
    (hty : typeOf (.builtin id) = pure (.type "method_descriptor")) (hm : MtR X id r) (ho : PE X o to) (h : X.K = K := by rfl) (hbase : attributeBase o name X.env (eval o X.env) = eval o X.env := by rfl)
    (hline : (apos.endLine == cpos.line) = true := by rfl) : PE X (.Call (.Attribute o name apos) [] [] cpos) (tBM0 K T r to) := h ▸ pe_bm0 pa slot hty hm ho hbase hline
theorem pi_enumK {e : Expr} {ta : TA} {p pos tpos : Pos} {elts : List Expr} {kk : Nat} (hg : Gl X "enumerate") (hm : X.mg "enumerate" = none) (ha : PA X [e] ta) (h : X.K = K := by rfl) (hs : starEach [e] X.env = [(false, eval e X.env)] := by rfl) :
    PI X (.Tuple elts kk tpos) (.Call (.Name "enumerate" p) [e] [] pos) (iEnum K ta) := h ▸ pi_enum hg hm ha hs
theorem pi_zipK {e e2 : Expr} {ta : TA} {p pos tpos : Pos} {elts : List Expr} {kk : Nat} (hg : Gl X "zip") (hm : X.mg "zip" = none) (ha : PA X [e, e2] ta) (h : X.K = K := by rfl)
    (hs : starEach [e, e2] X.env = (false, eval e X.env) :: starEach [e2] X.env := by rfl) (hpl : (backTo pos (starEach [e2] X.env)).any (·.1) = false := by rfl) :
    PI X (.Tuple elts kk tpos) (.Call (.Name "zip" p) [e, e2] [] pos) (iZip K ta) := h ▸ pi_zip hg hm ha hs hpl
end

/-! ### what stays: all but the tables of code objects, which grow -/
def Ext (T : List (Addr × Str)) (H H' : Hp) : Prop := ExtN H H' ∧ (Tabs T H → Tabs T H')
section
variable {T : List (Addr × Str)} {H H' H'' : Hp} {p : Addr} {o : HO} {K : PySem.W.Frag}
theorem Ext.refl : Ext T H H := ⟨ExtN.refl H, fun t => t⟩
theorem Ext.trans (a : Ext T H H') (b : Ext T H' H'') : Ext T H H'' := ⟨a.1.trans b.1, fun t => b.2 (a.2 t)⟩
theorem Ext.of (a : Same H H') : Ext T H H' := ⟨ExtN.of a, fun t => t.ext a⟩
theorem same_new (h : H p = none) : Same H (upd H p o) := fun b u e => by
  rw [upd_ne (ne_of_none e h)]
  exact e
theorem Same.new (a : Same H H') (h : H' p = none) : Same H (upd H' p o) := fun b u e => by
  have e' := a b u e
  rw [upd_ne (ne_of_none e' h)]
  exact e'
/-- an object that was not there at H may change -/
theorem Same.mut (a : Same H H') (h : H p = none) : Same H (upd H' p o) := fun b u e => by
  rw [upd_ne (ne_of_none e h)]
  exact a b u e
theorem Ext.new (h : H p = none) : Ext T H (upd H p o) := .of (same_new h)
theorem Ext.get {u : HO} (a : Ext T H H') (h : H p = some u) (n : ∀ ps, u ≠ .tbl ps := by intro _ z; cases z) : H' p = some u := a.1 _ _ h n
theorem Ext.lst {xs : List V} (a : Ext T H H') (h : H p = some (.lst xs)) : H' p = some (.lst xs) := a.1 _ _ h fun _ z => nomatch z
theorem Ext.tup {xs : List V} (a : Ext T H H') (h : H p = some (.tup xs)) : H' p = some (.tup xs) := a.1 _ _ h fun _ z => nomatch z
/-- not there, but for a table -/
def Fresh (H : Hp) (p : Addr) : Prop := ∀ o, H p = some o → ∃ ps, o = .tbl ps
theorem Fresh.of (h : H p = none) : Fresh H p := fun o e => by
  rw [h] at e
  cases e
theorem Ext.fresh (a : Ext T H H') (h : Fresh H' p) : Fresh H p := fun o e => by
  by_cases hu : ∃ ps, o = .tbl ps
  · exact hu
  · exact h o (a.1 _ _ e fun ps z => hu ⟨ps, z⟩)
theorem Ext.free (a : Ext T H H') (h : H' p = none) : Fresh H p := a.fresh (.of h)
theorem Fresh.ne {q : Addr} {u : HO} (f : Fresh H p) (h : H q = some u) (n : ∀ ps, u ≠ .tbl ps := by intro _ z; cases z) : q ≠ p := fun e => by
  rw [e] at h
  obtain ⟨ps, z⟩ := f _ h
  exact n ps z
/-- what may be written without harm to the tables -/
def Plain : HO → Prop
  | .lst _ => True
  | .ins _ _ _ => True
  | .dK _ => True
  | _ => False
theorem Plain.tbl {o : HO} (h : Plain o) : ∀ ps, o ≠ .tbl ps := fun ps z => by
  rw [z] at h
  exact h
theorem Plain.code {o : HO} (h : Plain o) (c : Addr) (q : Str) : o ≠ CodeO c q := fun z => by
  rw [z] at h
  exact h
theorem tabs_mut {u : HO} (t : Tabs T H) (h : H p = some u) (hu : Plain u) : Tabs T (upd H p o) := fun q hq => by
  obtain ⟨ps, h1, h2, h3⟩ := t q hq
  refine ⟨ps, by rw [upd_ne (ne_of h1 h (hu.tbl ps).symm)]; exact h1, h2, fun pos cv hc => ?_⟩
  obtain ⟨c, e1, e2⟩ := h3 pos cv hc
  exact ⟨c, e1, by rw [upd_ne (ne_of e2 h (hu.code c _).symm)]; exact e2⟩
theorem Ext.mut {u : HO} (a : Ext T H H') (f : Fresh H p) (h : H' p = some u) (hu : Plain u := by trivial) : Ext T H (upd H' p o) :=
  ⟨fun b x e n => by
    rw [upd_ne (f.ne e n)]
    exact a.1 _ _ e n, fun t => tabs_mut (a.2 t) h hu⟩
theorem Ext.new' (a : Ext T H H') (h : H' p = none) : Ext T H (upd H' p o) := a.trans (.new h)
theorem Ext.sqL {a : Addr} {xs : List V} (e : Ext T H H') (h : SqL K H a xs) : SqL K H' a xs := QL.sqL_ext e.1 h
theorem Ext.sqT {a : Addr} {xs : List V} (e : Ext T H H') (h : SqT K H a xs) : SqT K H' a xs := QL.sqT_ext e.1 h
end

/-! ### words, ways, standings -/
abbrev Word := List Str
abbrev Ways := List (Option Nat)
abbrev Std := Word × Ways
abbrev Form := List Std
def vS (w : Word) : List V := w.map V.str
def vW : Option Nat → V
  | none => .non
  | some n => .int (n : Int)
def vWs (ws : Ways) : List V := ws.map vW
section
variable (H : Hp)
def WordAt (a : Addr) (w : Word) : Prop := H a = some (.lst (vS w))
def WaysAt (a : Addr) (w : Ways) : Prop := H a = some (.lst (vWs w))
def StdAt (t : Addr) (s : Std) : Prop := ∃ a b, H t = some (.tup [.ref a, .ref b]) ∧ WordAt H a s.1 ∧ WaysAt H b s.2
def FormAt (p : Addr) (F : Form) : Prop := ∃ ts : List Addr, H p = some (.lst (ts.map V.ref)) ∧ Paired (StdAt H) ts F
end
section
variable {T : List (Addr × Str)} {K : PySem.W.Frag} {H H' : Hp} {a p : Addr} {w : Word} {ws : Ways} {F : Form} {s : Std}
theorem Ext.word (e : Ext T H H') (h : WordAt H a w) : WordAt H' a w := e.lst h
theorem Ext.ways (e : Ext T H H') (h : WaysAt H a ws) : WaysAt H' a ws := e.lst h
theorem Ext.std (e : Ext T H H') (h : StdAt H a s) : StdAt H' a s := by
  obtain ⟨x, y, h1, h2, h3⟩ := h
  exact ⟨x, y, e.tup h1, e.word h2, e.ways h3⟩
theorem Ext.form (e : Ext T H H') (h : FormAt H p F) : FormAt H' p F := by
  obtain ⟨ts, h1, h2⟩ := h
  exact ⟨ts, e.lst h1, L2.Paired.mapP h2 fun t s h => e.std h⟩
theorem Same.word (e : Same H H') (h : WordAt H a w) : WordAt H' a w := e _ _ h
theorem Same.ways (e : Same H H') (h : WaysAt H a ws) : WaysAt H' a ws := e _ _ h
theorem Same.std (e : Same H H') (h : StdAt H a s) : StdAt H' a s := (Ext.of (T := []) e).std h
theorem Same.form (e : Same H H') (h : FormAt H p F) : FormAt H' p F := (Ext.of (T := []) e).form h
theorem paired_get {α β : Type} {R : α → β → Prop} : ∀ {l : List α} {m : List β} {i : Nat} {b : β}, Paired R l m → m[i]? = some b → ∃ a, l[i]? = some a ∧ R a b
  | _, _, _, _, .nil, e => by simp at e
  | _, _, 0, _, .cons h t, e => by
    simp at e
    subst e
    exact ⟨_, rfl, h⟩
  | _, _, i + 1, _, .cons h t, e => by
    obtain ⟨a, h1, h2⟩ := paired_get (i := i) t (by simpa using e)
    exact ⟨a, by simpa using h1, h2⟩
theorem paired_get' {α β : Type} {R : α → β → Prop} : ∀ {l : List α} {m : List β} {i : Nat} {a : α}, Paired R l m → l[i]? = some a → ∃ b, m[i]? = some b ∧ R a b
  | _, _, _, _, .nil, e => by simp at e
  | _, _, 0, _, .cons h t, e => by
    simp at e
    subst e
    exact ⟨_, rfl, h⟩
  | _, _, i + 1, _, .cons h t, e => by
    obtain ⟨a, h1, h2⟩ := paired_get' (i := i) t (by simpa using e)
    exact ⟨a, by simpa using h1, h2⟩
/-- the k-th standing: its tuple, its lists -/
theorem FormAt.at {k : Nat} (h : FormAt H p F) (e : F[k]? = some s) : ∃ (vs : List V) (t a b : Addr), H p = some (.lst vs) ∧ vs.length = F.length ∧ vs[k]? = some (.ref t) ∧ H t = some (.tup [.ref a, .ref b]) ∧ WordAt H a s.1 ∧ WaysAt H b s.2 := by
  obtain ⟨ts, h1, h2⟩ := h
  obtain ⟨t, ht, x, y, h3, h4, h5⟩ := paired_get h2 e
  exact ⟨_, t, x, y, h1, by rw [List.length_map, Paired.length h2], by rw [List.getElem?_map, ht]; rfl, h3, h4, h5⟩
theorem FormAt.lst (h : FormAt H p F) : ∃ vs : List V, H p = some (.lst vs) ∧ vs.length = F.length := by
  obtain ⟨ts, h1, h2⟩ := h
  exact ⟨_, h1, by rw [List.length_map, Paired.length h2]⟩
theorem vS_get {k : Nat} {x : Str} (h : w[k]? = some x) : (vS w)[k]? = some (.str x) := by
  unfold vS
  rw [List.getElem?_map, h]
  rfl
theorem vWs_get {k : Nat} {x : Option Nat} (h : ws[k]? = some x) : (vWs ws)[k]? = some (vW x) := by
  unfold vWs
  rw [List.getElem?_map, h]
  rfl
theorem vS_len : (vS w).length = w.length := List.length_map _
theorem vWs_len : (vWs ws).length = ws.length := List.length_map _
theorem vS_flat : (vS w).all flatV = true := by
  rw [List.all_eq_true]
  intro x hx
  obtain ⟨s, _, rfl⟩ := List.mem_map.mp hx
  rfl
theorem eqV_str (x y : Str) : eqV (.str x) (.str y) = decide (x = y) := by
  by_cases h : x = y
  · subst h
    simp [eqV]
  · simp [eqV, h]
theorem inV_word (x : Str) : inV (.str x) (vS w) = decide (x ∈ w) := by
  unfold inV vS
  induction w with
  | nil => rfl
  | cons y w ih =>
    rw [List.map_cons, List.any_cons, ih, eqV_str]
    by_cases h : y = x
    · subst h
      simp
    · simp [h, Ne.symm h]
theorem vW_is (x : Option Nat) : decide (vW x = .non) = x.isNone := by
  cases x <;> rfl
theorem vS_append (v w : Word) : vS v ++ vS w = vS (v ++ w) := (List.map_append ..).symm
theorem cut_drop (xs : List V) (k : Nat) : cutV xs (some (k : Int)) none = xs.drop k := by
  unfold cutV
  rw [HT.sIx_nat, HT.sIx_none]
  by_cases h : k ≤ xs.length
  · rw [Nat.min_eq_left h, List.take_of_length_le (by rw [List.length_drop]; exact Nat.le_refl _)]
  · rw [Nat.min_eq_right (by omega), List.drop_eq_nil_of_le (Nat.le_refl _), List.drop_eq_nil_of_le (by omega), List.take_nil]
theorem cut_take (xs : List V) (k : Nat) : cutV xs none (some (k : Int)) = xs.take k := by
  unfold cutV
  rw [HT.sIx_nat, HT.sIx_none, List.drop_zero, Nat.sub_zero]
  by_cases h : k ≤ xs.length
  · rw [Nat.min_eq_left h]
  · rw [Nat.min_eq_right (by omega), List.take_of_length_le (Nat.le_refl _), List.take_of_length_le (by omega)]
theorem vS_drop (w : Word) (k : Nat) : (vS w).drop k = vS (w.drop k) := List.map_drop.symm
theorem vS_take (w : Word) (k : Nat) : (vS w).take k = vS (w.take k) := List.map_take.symm
theorem idxOf_min {tags : Word} {t : Str} : ∀ {m : Nat}, m < tags.idxOf t → ∀ {x}, tags[m]? = some x → x ≠ t := by
  induction tags with
  | nil => intro m h x e; simp at e
  | cons y tags ih =>
    intro m h x e z
    subst z
    rw [List.idxOf_cons] at h
    by_cases hy : y == x
    · rw [hy] at h
      simp at h
    · rw [Bool.not_eq_true] at hy
      rw [hy] at h
      simp at h
      cases m with
      | zero =>
        simp at e
        subst e
        simp at hy
      | succ m => exact ih (m := m) (by omega) (by simpa using e) rfl
/-- tags.index(tag), there -/
theorem index_word {tags : Word} {t : Str} {Q : VK} (h : WordAt H a tags) (ht : t ∈ tags) (q : Q (.int (tags.idxOf t : Nat)) H) : rIndex K (.ref a) [.str t] H Q := by
  have hlt : tags.idxOf t < tags.length := List.idxOf_lt_length_of_mem ht
  refine ⟨a, vS tags, .str t, tags.idxOf t, .str t, rfl, rfl, SqL.of h, rfl, vS_flat, vS_get ?_, by rw [eqV_str]; simp, fun m z hm hz => ?_, q⟩
  · rw [List.getElem?_eq_getElem hlt, List.getElem_idxOf]
  · have hm' : m < tags.length := Nat.lt_trans hm hlt
    have e : tags[m]? = some tags[m] := by simp [hm']
    rw [vS_get e] at hz
    cases hz
    rw [eqV_str]
    exact decide_eq_false (idxOf_min hm e)

/-! ### comprehensions whose elements leave all as it was -/
theorem sz_le {n : Nat} (h : n ≤ 100000) : n ≤ sizeLine := Nat.le_trans h (by decide)
theorem sz_lt {n : Nat} (h : n < 100000) : n < sizeLine := Nat.lt_of_lt_of_le h (by decide)
theorem lc_filter {J : It} {n : Nat} {G : Hp → Prop} {Y : Nat → Hp → V → Hp → Prop} (w : Walk J n G Y) {g : TG} {tt : TT} {te : TE} {vs : List Nat} {σ : L2.St} {H1 : Hp} {D : Addr} {Qd : Hp → Prop} (hD : H1 D = none) (hn : n ≤ 100000)
    (hG : ∀ H, Same H1 H → G H) (f : Nat → V) (p : Nat → Bool)
    (hs : ∀ (i : Nat) (x : V) (H H' : Hp) (k : VK) (N : Hp → Prop), i < n → Same H1 H → Y i H x H' → (p i = true → ∀ H4, Same H H4 → k (f i) H4) → (p i = false → ∀ H4, Same H H4 → N H4) →
      g x (wipe σ vs) H' fun σ2 H2 => wipe σ2 vs = wipe σ vs ∧ tt σ2 H2 fun b H3 => if b = true then te σ2 H3 k else N H3)
    (hd : ∀ H, Same H1 H → H D = some (.lst (((List.range n).filter p).map f)) → Qd H) :
    ∃ W : Nat → Nat → Hp → Prop, (∃ m, W 0 m (upd H1 D (.lst []))) ∧ ∀ i m H, W i m H →
      (J.stop i H ∧ Qd H) ∨ (J.go i H ∧ ∃ Nx : Hp → Prop, (∀ H', Nx H' → ∃ m', m' < m ∧ W (i + 1) m' H') ∧ ∀ x H', J.yld i H x H' → g x (wipe σ vs) H' fun σ2 H2 => wipe σ2 vs = wipe σ vs ∧ tt σ2 H2 fun b H3 =>
        if b = true then te σ2 H3 fun y H4 => ∃ acc, H4 D = some (.lst acc) ∧ acc.length < sizeLine ∧ Nx (upd H4 D (.lst (acc ++ [y]))) else Nx H3) := by
  refine lc_it w (fun i H => Same H1 H ∧ H D = some (.lst (((List.range i).filter p).map f))) ⟨Same.mut (Same.refl H1) hD, upd_same⟩ (fun i H _ h => hG H h.1) (fun i x H H' hi h y => ?_) fun H h => hd H h.1 h.2
  obtain ⟨s1, e⟩ := h
  refine hs i x H H' _ _ hi s1 y (fun hp H4 s4 => ⟨_, s4 _ _ e, ?_, Same.mut (s1.trans s4) hD, ?_⟩) (fun hp H4 s4 => ⟨s1.trans s4, ?_⟩)
  · have h1 := List.length_filter_le p (List.range i)
    rw [List.length_range] at h1
    rw [List.length_map]
    exact sz_lt (by omega)
  · rw [upd_same, List.range_succ, List.filter_append, List.map_append, List.filter_cons, if_pos hp]
    rfl
  · rw [s4 _ _ e, List.range_succ, List.filter_append, List.map_append, List.filter_cons, if_neg (by rw [hp]; decide)]
    simp
theorem lc_map {J : It} {n : Nat} {G : Hp → Prop} {Y : Nat → Hp → V → Hp → Prop} (w : Walk J n G Y) {g : TG} {te : TE} {vs : List Nat} {σ : L2.St} {H1 : Hp} {D : Addr} {Qd : Hp → Prop} (hD : H1 D = none) (hn : n ≤ 100000)
    (hG : ∀ H, Same H1 H → G H) (f : Nat → V)
    (hs : ∀ (i : Nat) (x : V) (H H' : Hp) (k : VK), i < n → Same H1 H → Y i H x H' → (∀ H4, Same H H4 → k (f i) H4) →
      g x (wipe σ vs) H' fun σ2 H2 => wipe σ2 vs = wipe σ vs ∧ te σ2 H2 k)
    (hd : ∀ H, Same H1 H → H D = some (.lst ((List.range n).map f)) → Qd H) :
    ∃ W : Nat → Nat → Hp → Prop, (∃ m, W 0 m (upd H1 D (.lst []))) ∧ ∀ i m H, W i m H →
      (J.stop i H ∧ Qd H) ∨ (J.go i H ∧ ∃ Nx : Hp → Prop, (∀ H', Nx H' → ∃ m', m' < m ∧ W (i + 1) m' H') ∧ ∀ x H', J.yld i H x H' → g x (wipe σ vs) H' fun σ2 H2 => wipe σ2 vs = wipe σ vs ∧ tYes σ2 H2 fun b H3 =>
        if b = true then te σ2 H3 fun y H4 => ∃ acc, H4 D = some (.lst acc) ∧ acc.length < sizeLine ∧ Nx (upd H4 D (.lst (acc ++ [y]))) else Nx H3) := by
  refine lc_it w (fun i H => Same H1 H ∧ H D = some (.lst ((List.range i).map f))) ⟨Same.mut (Same.refl H1) hD, upd_same⟩ (fun i H _ h => hG H h.1) (fun i x H H' hi h y => ?_) fun H h => hd H h.1 h.2
  obtain ⟨s1, e⟩ := h
  have q := hs i x H H' (fun y H4 => ∃ acc, H4 D = some (.lst acc) ∧ acc.length < sizeLine ∧ (Same H1 (upd H4 D (.lst (acc ++ [y]))) ∧ (upd H4 D (.lst (acc ++ [y]))) D = some (.lst ((List.range (i + 1)).map f)))) hi s1 y
    fun H4 s4 => ⟨_, s4 _ _ e, by rw [List.length_map, List.length_range]; exact sz_lt (by omega), Same.mut (s1.trans s4) hD, by rw [upd_same, List.range_succ, List.map_append]; rfl⟩
  exact q
/-- a list by its places -/
theorem range_map_get {α : Type} (f : Nat → V) (l : List α) (h : α → V) (e : ∀ (i : Nat) (x : α), l[i]? = some x → f i = h x) : (List.range l.length).map f = l.map h := by
  refine List.ext_getElem? fun i => ?_
  rw [List.getElem?_map, List.getElem?_map]
  by_cases hi : i < l.length
  · rw [List.getElem?_range hi, List.getElem?_eq_getElem hi]
    exact congrArg some (e i _ (List.getElem?_eq_getElem hi))
  · rw [List.getElem?_eq_none (by rw [List.length_range]; omega), List.getElem?_eq_none (by omega)]
    rfl
theorem filter_range {α : Type} (q : α → Bool) (h : α → V) (p : Nat → Bool) (f : Nat → V) (l : List α) (e : ∀ (i : Nat) (x : α), l[i]? = some x → p i = q x ∧ f i = h x) : ((List.range l.length).filter p).map f = (l.filter q).map h := by
  have all : ∀ n, n ≤ l.length → ((List.range n).filter p).map f = ((l.take n).filter q).map h := by
    intro n
    induction n with
    | zero => intro _; rfl
    | succ n ih =>
      intro hn
      have ha : l[n]? = some (l[n]'(by omega)) := List.getElem?_eq_getElem (by omega)
      obtain ⟨e1, e2⟩ := e n _ ha
      rw [List.range_succ, List.filter_append, List.map_append, List.take_succ, ha, List.filter_append, List.map_append, ih (by omega), List.filter_cons, e1]
      by_cases hq : q (l[n]'(by omega)) = true
      · rw [if_pos hq]
        simp [hq, e2]
      · rw [if_neg hq]
        simp [hq]
  have := all l.length (Nat.le_refl _)
  rwa [List.take_length] at this

/-! ### what loops give -/
theorem walk_enumW : Walk (Ite K a) w.length (fun H => WordAt H a w) (fun i H v H' => ∃ (t : Addr) (x : Str), w[i]? = some x ∧ H t = none ∧ v = .ref t ∧ H' = upd H t (.tup [.int (i : Nat), .str x])) := by
  have e := walk_enum (K := K) (a := a) (xs := vS w)
  rw [vS_len] at e
  refine e.mono (fun H h => SqL.of h) fun i H v H' hi _ y => ?_
  obtain ⟨t, x, z, h1, h2, h3, h4, h5⟩ := y
  cases h4
  have h5 : (vS w)[i]? = some z := h5
  have hw : w[i]? = some w[i] := by simp [hi]
  rw [vS_get hw] at h5
  cases h5
  exact ⟨t, _, hw, h2, h1, h3⟩
theorem walk_listW : Walk (Itl K a) w.length (fun H => WordAt H a w) (fun i H v H' => ∃ x : Str, w[i]? = some x ∧ v = .str x ∧ H' = H) := by
  have e := walk_list (K := K) (a := a) (xs := vS w)
  rw [vS_len] at e
  refine e.mono (fun H h => SqL.of h) fun i H v H' hi _ y => ?_
  obtain ⟨h1, h2⟩ := y
  have hw : w[i]? = some w[i] := by simp [hi]
  rw [vS_get hw] at h2
  cases h2
  exact ⟨_, hw, rfl, h1⟩
theorem walk_listWs : Walk (Itl K a) ws.length (fun H => WaysAt H a ws) (fun i H v H' => ∃ x : Option Nat, ws[i]? = some x ∧ v = vW x ∧ H' = H) := by
  have e := walk_list (K := K) (a := a) (xs := vWs ws)
  rw [vWs_len] at e
  refine e.mono (fun H h => SqL.of h) fun i H v H' hi _ y => ?_
  obtain ⟨h1, h2⟩ := y
  have hw : ws[i]? = some ws[i] := by simp [hi]
  rw [vWs_get hw] at h2
  cases h2
  exact ⟨_, hw, rfl, h1⟩
/-- a form's standings, the heap as it was -/
theorem walk_listF : Walk (Itl K p) F.length (fun H => FormAt H p F) (fun i H v H' => ∃ (s : Std) (t a b : Addr), F[i]? = some s ∧ v = .ref t ∧ H' = H ∧ H t = some (.tup [.ref a, .ref b]) ∧ WordAt H a s.1 ∧ WaysAt H b s.2) := by
  refine ⟨fun i H hi h => ?_, fun H h => ?_, fun i H v H' hi h y => ?_⟩
  · obtain ⟨vs, t, a, b, h1, h2, h3, _⟩ := FormAt.at h (show F[i]? = some F[i] by simp [hi])
    exact ⟨vs, _, SqL.of h1, h3⟩
  · obtain ⟨vs, h1, h2⟩ := FormAt.lst h
    exact ⟨_, SqL.of h1, by rw [h2]; exact Nat.le_refl _⟩
  · have e : F[i]? = some F[i] := by simp [hi]
    obtain ⟨vs, t, a, b, h1, h2, h3, h4, h5, h6⟩ := FormAt.at h e
    obtain ⟨y1, y2⟩ := y
    have := y2 vs (SqL.of h1)
    rw [h3] at this
    cases this
    exact ⟨_, t, a, b, e, rfl, y1, h4, h5, h6⟩
end

/-! ### a form of one's own: new lists throughout, no list twice -/
abbrev Tri := Addr × Addr × Addr
def inner (L : List Tri) : List Addr := L.flatMap fun x => [x.2.1, x.2.2]
structure NewL (H0 H : Hp) (L : List Tri) (F : Form) : Prop where
  at_ : Paired (fun (x : Tri) (s : Std) => H x.1 = some (.tup [.ref x.2.1, .ref x.2.2]) ∧ WordAt H x.2.1 s.1 ∧ WaysAt H x.2.2 s.2) L F
  new : ∀ x ∈ L, Fresh H0 x.1 ∧ Fresh H0 x.2.1 ∧ Fresh H0 x.2.2
  nd : (inner L).Nodup
structure NewF (H0 H : Hp) (p : Addr) (L : List Tri) (F : Form) : Prop where
  lst : H p = some (.lst (L.map fun x => V.ref x.1))
  all : NewL H0 H L F
  new : Fresh H0 p
  out : p ∉ inner L
section
variable {T : List (Addr × Str)} {H0 H H' : Hp} {L : List Tri} {F : Form} {p t a b : Addr} {s : Std}
theorem NewL.nil : NewL H0 H [] [] := ⟨.nil, (fun _ h => nomatch h), List.nodup_nil⟩
theorem NewL.ext (n : NewL H0 H L F) (e : Ext T H H') : NewL H0 H' L F :=
  ⟨L2.Paired.mapP n.at_ fun _ _ h => ⟨e.tup h.1, e.word h.2.1, e.ways h.2.2⟩, n.new, n.nd⟩
theorem NewL.same (n : NewL H0 H L F) (e : Same H H') : NewL H0 H' L F := n.ext (Ext.of (T := []) e)
theorem NewF.ext (n : NewF H0 H p L F) (e : Ext T H H') : NewF H0 H' p L F := ⟨e.lst n.lst, n.all.ext e, n.new, n.out⟩
theorem NewF.same (n : NewF H0 H p L F) (e : Same H H') : NewF H0 H' p L F := n.ext (Ext.of (T := []) e)
theorem NewL.old {H1 : Hp} (n : NewL H H' L F) (e : Ext T H1 H) : NewL H1 H' L F := ⟨n.at_, fun x hx => ⟨e.fresh (n.new x hx).1, e.fresh (n.new x hx).2.1, e.fresh (n.new x hx).2.2⟩, n.nd⟩
theorem NewF.old {H1 : Hp} (n : NewF H H' p L F) (e : Ext T H1 H) : NewF H1 H' p L F := ⟨n.lst, n.all.old e, e.fresh n.new, n.out⟩
theorem mem_inner {q : Addr} (h : q ∈ inner L) : ∃ x ∈ L, q = x.2.1 ∨ q = x.2.2 := by
  obtain ⟨x, hx, hq⟩ := List.mem_flatMap.mp h
  refine ⟨x, hx, ?_⟩
  simpa using hq
theorem NewL.there (n : NewL H0 H L F) {q : Addr} (h : q ∈ inner L) : ∃ xs, H q = some (.lst xs) := by
  obtain ⟨x, hx, hq⟩ := mem_inner h
  obtain ⟨i, hi, e⟩ := List.mem_iff_getElem.mp hx
  obtain ⟨s, _, h1, h2, h3⟩ := paired_get' n.at_ (show L[i]? = some x by rw [List.getElem?_eq_getElem hi, e])
  rcases hq with rfl | rfl
  · exact ⟨_, h2⟩
  · exact ⟨_, h3⟩
theorem inner_append (L M : List Tri) : inner (L ++ M) = inner L ++ inner M := List.flatMap_append
theorem NewL.snoc (n : NewL H0 H L F) (e : Same H H') (ha : H a = none) (hb : H b = none) (hab : a ≠ b) (h1 : H' t = some (.tup [.ref a, .ref b])) (h2 : WordAt H' a s.1) (h3 : WaysAt H' b s.2) (f1 : Fresh H0 t) (f2 : Fresh H0 a) (f3 : Fresh H0 b) :
    NewL H0 H' (L ++ [(t, a, b)]) (F ++ [s]) := by
  refine ⟨Paired.snoc (n.same e).at_ ⟨h1, h2, h3⟩, fun x hx => ?_, ?_⟩
  · rcases List.mem_append.mp hx with hx | hx
    · exact n.new x hx
    · rw [List.mem_singleton.mp hx]
      exact ⟨f1, f2, f3⟩
  · rw [inner_append, List.nodup_append]
    refine ⟨n.nd, ?_, fun x hx y hy => ?_⟩
    · show [a, b].Nodup
      simp [hab]
    · obtain ⟨xs, hxs⟩ := n.there hx
      have hy : y = a ∨ y = b := by simpa [inner] using hy
      rcases hy with rfl | rfl
      · exact ne_of_none hxs ha
      · exact ne_of_none hxs hb
theorem NewL.form (n : NewL H0 H L F) (h : H p = some (.lst (L.map fun x => V.ref x.1))) : FormAt H p F := by
  refine ⟨L.map (·.1), by rw [List.map_map]; exact h, ?_⟩
  have e := n.at_
  clear h n
  induction e with
  | nil => exact .nil
  | cons h _ ih => exact .cons ⟨_, _, h.1, h.2.1, h.2.2⟩ ih
theorem NewF.form (n : NewF H0 H p L F) : FormAt H p F := n.all.form n.lst
theorem NewL.len (n : NewL H0 H L F) : L.length = F.length := Paired.length n.at_
theorem NewF.mk' (n : NewL H0 H L F) (h : H p = some (.lst (L.map fun x => V.ref x.1))) (f : Fresh H0 p) (o : p ∉ inner L) : NewF H0 H p L F := ⟨h, n, f, o⟩
/-- its k-th standing -/
theorem NewL.get (n : NewL H0 H L F) {k : Nat} (e : F[k]? = some s) : ∃ x : Tri, L[k]? = some x ∧ H x.1 = some (.tup [.ref x.2.1, .ref x.2.2]) ∧ WordAt H x.2.1 s.1 ∧ WaysAt H x.2.2 s.2 := paired_get n.at_ e
/-- another list is written -/
theorem paired_mem {α β : Type} {R S : α → β → Prop} : ∀ {l : List α} {m : List β}, Paired R l m → (∀ a b, a ∈ l → R a b → S a b) → Paired S l m
  | _, _, .nil, _ => .nil
  | _, _, .cons h t, f => .cons (f _ _ List.mem_cons_self h) (paired_mem t fun a b ha hr => f a b (List.mem_cons_of_mem _ ha) hr)
theorem NewL.upd {xs ys : List V} (n : NewL H0 H L F) (h : H p = some (.lst xs)) (o : p ∉ inner L) : NewL H0 (upd H p (.lst ys)) L F := by
  refine ⟨paired_mem n.at_ fun x s hx r => ?_, n.new, n.nd⟩
  have h1 : x.2.1 ≠ p := fun e => o (List.mem_flatMap.mpr ⟨x, hx, by simp [e]⟩)
  have h2 : x.2.2 ≠ p := fun e => o (List.mem_flatMap.mpr ⟨x, hx, by simp [e]⟩)
  exact ⟨(upd_ne (ne_of r.1 h (fun z => nomatch z))).trans r.1, Eq.trans (upd_ne h1) r.2.1, Eq.trans (upd_ne h2) r.2.2⟩
theorem NewL.updD {kvs : List (Key × V)} {u : HO} (n : NewL H0 H L F) (h : H p = some (.dK kvs)) : NewL H0 (L2.upd H p u) L F := by
  refine ⟨paired_mem n.at_ fun x s hx r => ?_, n.new, n.nd⟩
  exact ⟨(upd_ne (ne_of r.1 h (fun z => nomatch z))).trans r.1, Eq.trans (upd_ne (ne_of r.2.1 h (fun z => nomatch z))) r.2.1, Eq.trans (upd_ne (ne_of r.2.2 h (fun z => nomatch z))) r.2.2⟩
theorem not_inner_snoc (o : p ∉ inner L) (ha : p ≠ a) (hb : p ≠ b) : p ∉ inner (L ++ [(t, a, b)]) := by
  rw [inner_append]
  simp [inner] at o ⊢
  exact ⟨o, ha, hb⟩
/-- the ways of one standing are written anew -/
theorem NewL.setWays : ∀ {L : List Tri} {F : Form} {k : Nat} {x : Tri} {s : Std} {ws : Ways}, NewL H0 H L F → L[k]? = some x → F[k]? = some s → NewL H0 (L2.upd H x.2.2 (.lst (vWs ws))) L (F.set k (s.1, ws))
  | [], _, k, _, _, _, _, e, _ => by simp at e
  | y :: L, [], k, _, _, _, _, _, e => by simp at e
  | y :: L, f :: F, 0, x, s, ws, n, e1, e2 => by
    simp at e1 e2
    subst e1 e2
    obtain ⟨p, nw, nd⟩ := n
    cases p with
    | cons h t =>
      have nd' : (y.2.1 :: y.2.2 :: inner L).Nodup := nd
      rw [List.nodup_cons, List.nodup_cons] at nd'
      obtain ⟨d1, d2, d3⟩ := nd'
      have rest := NewL.upd (p := y.2.2) (ys := vWs ws) ⟨t, fun z hz => nw z (List.mem_cons_of_mem _ hz), d3⟩ h.2.2 d2
      refine ⟨?_, nw, nd⟩
      rw [List.set_cons_zero]
      exact .cons ⟨(upd_ne (ne_of h.1 h.2.2 (fun z => nomatch z))).trans h.1, Eq.trans (upd_ne fun z => d1 (by rw [z]; exact List.mem_cons_self)) h.2.1, upd_same⟩ rest.at_
  | y :: L, f :: F, k + 1, x, s, ws, n, e1, e2 => by
    rw [List.getElem?_cons_succ] at e1 e2
    obtain ⟨p, nw, nd⟩ := n
    cases p with
    | cons h t =>
      have nd' : (y.2.1 :: y.2.2 :: inner L).Nodup := nd
      rw [List.nodup_cons, List.nodup_cons] at nd'
      obtain ⟨d1, d2, d3⟩ := nd'
      have n' : NewL H0 H L F := ⟨t, fun z hz => nw z (List.mem_cons_of_mem _ hz), d3⟩
      have rest := NewL.setWays (ws := ws) n' e1 e2
      obtain ⟨z, hz, hz1, hz2, hz3⟩ := n'.get e2
      rw [e1] at hz
      cases hz
      have hx : x.2.2 ∈ inner L := List.mem_flatMap.mpr ⟨x, List.mem_of_getElem? e1, by simp⟩
      refine ⟨?_, nw, nd⟩
      rw [List.set_cons_succ]
      exact .cons ⟨(upd_ne (ne_of h.1 hz3 (fun z => nomatch z))).trans h.1, Eq.trans (upd_ne fun z => d1 (by rw [z]; exact List.mem_cons_of_mem _ hx)) h.2.1, Eq.trans (upd_ne fun z => d2 (by rw [z]; exact hx)) h.2.2⟩ rest.at_
end

/-! ### words compared -/
def txts (w : Word) : List PyData := w.map .str
theorem dpAll_word (K : PySem.W.Frag) (H : Hp) : ∀ w : Word, DpAll K H (vS w) (txts w)
  | [] => .nil
  | _ :: w => .cons (.str _) (dpAll_word K H w)
theorem dp_word {K : PySem.W.Frag} {H : Hp} {a : Addr} {w : Word} (h : WordAt H a w) : Dp K H (.ref a) (.list (txts w)) := .lst (SqL.of h) (dpAll_word K H w)
theorem eqvAll_txts : ∀ v w : Word, PyData.eqvAll (txts v) (txts w) = decide (v = w)
  | [], [] => rfl
  | [], _ :: _ => rfl
  | _ :: _, [] => rfl
  | x :: v, y :: w => by
    show (x == y && PyData.eqvAll (txts v) (txts w)) = _
    rw [eqvAll_txts v w]
    by_cases h : x = y
    · subst h
      by_cases h2 : v = w <;> simp [h2]
    · simp [h]
theorem layAll_txts : ∀ w : Word, (∀ t ∈ w, PyData.strOk t = true) → PyData.canLayAll0 (txts w) = true
  | [], _ => rfl
  | x :: w, h => by
    show (PyData.strOk x && PyData.canLayAll0 (txts w)) = true
    rw [h x List.mem_cons_self, layAll_txts w fun t ht => h t (List.mem_cons_of_mem _ ht)]
    rfl
theorem depthAll_txts : ∀ w : Word, PyData.depthAll (txts w) = 0
  | [] => rfl
  | x :: w => by
    show max 0 (PyData.depthAll (txts w)) = 0
    rw [depthAll_txts w]
    rfl
theorem shaped_word {w : Word} (h : ∀ t ∈ w, PyData.strOk t = true) : SeqAt.shaped (.list (txts w)) = true := by
  unfold SeqAt.shaped
  rw [Bool.and_eq_true]
  refine ⟨layAll_txts w h, decide_eq_true ?_⟩
  show PyData.depthAll (txts w) + 1 ≤ 64
  rw [depthAll_txts]
  decide
theorem eq_words {K : PySem.W.Frag} {H : Hp} {a b : Addr} {v w : Word} {Q : VK} (hv : WordAt H a v) (hw : WordAt H b w) (ov : ∀ t ∈ v, PyData.strOk t = true) (ow : ∀ t ∈ w, PyData.strOk t = true) (q : Q (.bl (decide (v = w))) H) : rEqD K (.ref a) (.ref b) H Q :=
  ⟨_, _, dp_word hv, dp_word hw, shaped_word ov, shaped_word ow, by
    show Q (.bl (PyData.eqvAll (txts v) (txts w))) H
    rw [eqvAll_txts]
    exact q⟩
theorem ne_words {K : PySem.W.Frag} {H : Hp} {a b : Addr} {v w : Word} {Q : VK} (hv : WordAt H a v) (hw : WordAt H b w) (ov : ∀ t ∈ v, PyData.strOk t = true) (ow : ∀ t ∈ w, PyData.strOk t = true) (q : Q (.bl (!decide (v = w))) H) : rNeD K (.ref a) (.ref b) H Q :=
  ⟨_, _, dp_word hv, dp_word hw, shaped_word ov, shaped_word ow, by
    show Q (.bl (!PyData.eqvAll (txts v) (txts w))) H
    rw [eqvAll_txts]
    exact q⟩

/-! ### a def whose code object is told -/
structure FunC (K : PySem.W.Frag) (x qual : Str) (st : Stmt) (f : Addr) (fd : FuncData) (c : Addr) : Prop where
  ex : ∃ (oc : Value) (od : Option Addr) (kV doc pm : Value) (an : Option Addr) (ct : Value) (osl : Array (Option Value)),
    fd = PySem.W.fnOf x qual (defArgs st) (defBody st) (defScope st) .none kV doc pm an (.ref c) ct ∧ K.lookup f = some ⟨oc, od, .func fd, osl⟩ ∧ PySem.W.codeIn K (.ref c) qual = true
theorem FunC.ok {P : Program} {w : World} {K : PySem.W.Frag} {mg : Str → Option Value} {base : Heap} {x qual : Str} {st : Stmt} {f c : Addr} {fd : FuncData} {N ps : List Str} {k : Nat} {sp : Sp} (F : FunC K x qual st f fd c) (S : FnScope N ps (defScope st)) (len : ∀ vs H Q E, sp vs H Q E → vs.length = ps.length)
    (hbody : ∀ (A : Around) (outer : List Env) (s : Shared) (H : Hp) (vs : List V) (Q : VK) (E : XK), Room k (A.deeper (envOfC qual (defScope st) s.heap.objs.size f (.ref c))) → sp vs H Q E →
      ∃ t, PSs (cxOf CX0 P w K mg base N qual (defScope st) f (.ref c) A outer s H E).nox (defBody st) t ∧ t { nx := fun _ H' => Q .non H', rt := Q } (L2.start N vs) H) : FnOk P w K mg base CX0 (k + 1) f fd ps sp := by
  obtain ⟨oc, od, kV, doc, pm, an, ct, osl, rfl, lk, hcd⟩ := F.ex
  exact fn_of lk hcd S len fun A outer s H vs Q E hr hsp => by
    obtain ⟨t, h, q⟩ := hbody A outer s H vs Q E hr hsp
    exact ⟨t, h.nox, q⟩
end QB
end

section
set_option linter.all false
set_option autoImplicit false
/-! mirrors: plain functions over words and standings -/
namespace QM
open PySem QB

def ixOf (tags : List Str) (t : Str) : Nat := tags.idxOf t
/-- the way of a standing for a tag -/
def way (tags : List Str) (s : Std) (t : Str) : Option Nat := (s.2[ixOf tags t]?).join
def wayAt (tags : List Str) (F : Form) (at_ : Nat) (t : Str) : Option Nat := (F[at_]?).bind fun s => way tags s t
def walkFrom (tags : List Str) (F : Form) : Nat → Nat → Word → Nat × Nat
  | at_, k, [] => (at_, k)
  | at_, k, t :: w => match wayAt tags F at_ t with
    | none => (at_, k)
    | some b => walkFrom tags F b (k + 1) w
def walk (tags : List Str) (F : Form) (w : Word) : Nat × Nat := walkFrom tags F 0 0 w
def wordOf (F : Form) (k : Nat) : Word := ((F[k]?).map (·.1)).getD []
def make (tags : List Str) (F : Form) (w : Word) : Word := wordOf F (walk tags F w).1 ++ w.drop (walk tags F w).2

structure Good (tags : List Str) (F : Form) : Prop where
  pos : 0 < F.length
  len : ∀ s ∈ F, s.2.length = tags.length
  to : ∀ s ∈ F, ∀ n, some n ∈ s.2 → n < F.length
  small : F.length ≤ 5000
theorem Good.way_lt {tags : List Str} {F : Form} (g : Good tags F) {s : Std} (hs : s ∈ F) {k n : Nat} (h : s.2[k]? = some (some n)) : n < F.length := g.to s hs n (List.mem_of_getElem? h)
theorem mem_of {F : Form} {k : Nat} {s : Std} (h : F[k]? = some s) : s ∈ F := List.mem_of_getElem? h
theorem Good.ways {tags : List Str} {F : Form} (g : Good tags F) {k : Nat} {s : Std} (h : F[k]? = some s) : s.2.length = tags.length := g.len s (mem_of h)
/-- the way of a standing for one of the tags -/
theorem Good.way {tags : List Str} {F : Form} (g : Good tags F) {k : Nat} {s : Std} {t : Str} (h : F[k]? = some s) (ht : t ∈ tags) : s.2[tags.idxOf t]? = some (way tags s t) := by
  have hlt : tags.idxOf t < s.2.length := by rw [g.ways h]; exact List.idxOf_lt_length_of_mem ht
  unfold QM.way ixOf
  rw [List.getElem?_eq_getElem hlt]
  rfl
theorem wayAt_of {tags : List Str} {F : Form} {k : Nat} {s : Std} {t : Str} (h : F[k]? = some s) : wayAt tags F k t = way tags s t := by
  unfold wayAt
  rw [h]
  rfl
theorem Good.wayLt {tags : List Str} {F : Form} (g : Good tags F) {k n : Nat} {s : Std} {t : Str} (h : F[k]? = some s) (ht : t ∈ tags) (e : QM.way tags s t = some n) : n < F.length := by
  have q := g.way h ht
  rw [e] at q
  exact g.way_lt (mem_of h) q
theorem wordOf_of {F : Form} {k : Nat} {s : Std} (h : F[k]? = some s) : wordOf F k = s.1 := by
  unfold wordOf
  rw [h]
  rfl
theorem walkFrom_lt {tags : List Str} {F : Form} (g : Good tags F) : ∀ (w : Word) (at_ k : Nat), at_ < F.length → (∀ t ∈ w, t ∈ tags) → (walkFrom tags F at_ k w).1 < F.length ∧ k ≤ (walkFrom tags F at_ k w).2 ∧ (walkFrom tags F at_ k w).2 ≤ k + w.length
  | [], at_, k, h, _ => ⟨h, Nat.le_refl _, Nat.le_refl _⟩
  | t :: w, at_, k, h, ht => by
    unfold walkFrom
    cases e : wayAt tags F at_ t with
    | none => exact ⟨h, Nat.le_refl _, Nat.le_add_right _ _⟩
    | some b =>
      have hF : F[at_]? = some F[at_] := by simp [h]
      have hb : b < F.length := g.wayLt hF (ht t List.mem_cons_self) (by rw [← wayAt_of hF]; exact e)
      obtain ⟨h1, h2, h3⟩ := walkFrom_lt g w b (k + 1) hb fun x hx => ht x (List.mem_cons_of_mem _ hx)
      show (walkFrom tags F b (k + 1) w).1 < F.length ∧ k ≤ (walkFrom tags F b (k + 1) w).2 ∧ (walkFrom tags F b (k + 1) w).2 ≤ k + (t :: w).length
      rw [List.length_cons]
      exact ⟨h1, by omega, by omega⟩
theorem walk_lt {tags : List Str} {F : Form} (g : Good tags F) {w : Word} (h : ∀ t ∈ w, t ∈ tags) : (walk tags F w).1 < F.length ∧ (walk tags F w).2 ≤ w.length := by
  obtain ⟨h1, _, h3⟩ := walkFrom_lt g w 0 0 g.pos h
  exact ⟨h1, by rw [Nat.zero_add] at h3; exact h3⟩

/-! ### classes of standings -/
open L2 in
def wayNum (cs : List Nat) : Option Nat → NestedKey
  | none => .num (-1)
  | some n => .num ((cs.getD n 0 : Nat) : Int)
def partKey (cs : List Nat) (p : Nat × Std) : NestedKey := .tup [.num (p.1 : Int), .tup (p.2.2.map (wayNum cs))]
def partKeys (cs : List Nat) (F : Form) : List NestedKey := (cs.zip F).map (partKey cs)
def part (cs : List Nat) (F : Form) : List Nat := QD.numb (partKeys cs F)
def wordKey (s : Std) : NestedKey := .tup (s.1.map .text)
def wordKeys (F : Form) : List NestedKey := F.map wordKey
def maxOf (cs : List Nat) : Nat := cs.foldl max 0
def alikeLoop (F : Form) : Nat → Nat → List Nat → List Nat
  | 0, _, cs => cs
  | f + 1, many, cs => if many ≤ maxOf cs then alikeLoop F f (maxOf cs + 1) (part cs F) else cs
def alike (F : Form) : List Nat := alikeLoop F (F.length + 1) 0 (QD.numb (wordKeys F))

theorem partKeys_len {cs : List Nat} {F : Form} (h : cs.length = F.length) : (partKeys cs F).length = F.length := by
  unfold partKeys
  rw [List.length_map, List.length_zip, h, Nat.min_self]
theorem part_len {cs : List Nat} {F : Form} (h : cs.length = F.length) : (part cs F).length = F.length := by
  unfold part
  rw [QD.numb_len, partKeys_len h]
theorem maxOf_le : ∀ (cs : List Nat) (a b : Nat), cs.foldl max a ≤ b ↔ a ≤ b ∧ ∀ x ∈ cs, x ≤ b
  | [], a, b => by simp
  | c :: cs, a, b => by
    rw [List.foldl_cons, maxOf_le cs (max a c) b]
    constructor
    · rintro ⟨h1, h2⟩
      refine ⟨by omega, fun x hx => ?_⟩
      rcases List.mem_cons.mp hx with rfl | hx
      · omega
      · exact h2 x hx
    · rintro ⟨h1, h2⟩
      have := h2 c List.mem_cons_self
      exact ⟨by omega, fun x hx => h2 x (List.mem_cons_of_mem _ hx)⟩
theorem le_maxOf {cs : List Nat} {x : Nat} (h : x ∈ cs) : x ≤ maxOf cs := ((maxOf_le cs 0 _).mp (Nat.le_refl _)).2 x h
theorem maxOf_eq {cs : List Nat} {m : Nat} (h : m ∈ cs) (hm : ∀ x ∈ cs, x ≤ m) : maxOf cs = m :=
  Nat.le_antisymm ((maxOf_le cs 0 m).mpr ⟨Nat.zero_le _, hm⟩) (le_maxOf h)
theorem numb_lt {α : Type} [DecidableEq α] {ms : List α} {x : Nat} (h : x ∈ QD.numb ms) : x < (QD.seenOf ms).length := by
  obtain ⟨m, hm, rfl⟩ := List.mem_map.mp h
  exact List.idxOf_lt_length_of_mem ((QD.mem_seenOf ms m).mpr hm)
theorem numb_lt' {α : Type} [DecidableEq α] {ms : List α} {x : Nat} (h : x ∈ QD.numb ms) : x < ms.length := Nat.lt_of_lt_of_le (numb_lt h) (QD.seenOf_len ms)

/-! ### the order in which standings are met -/
def clsOf (cs : List Nat) (n : Nat) : Nat := cs.getD n 0
def visit (cs : List Nat) (met : List Nat) : Option Nat → List Nat
  | none => met
  | some n => if clsOf cs n ∈ met.map (clsOf cs) then met else met ++ [n]
def visitAll (cs : List Nat) (met : List Nat) (ws : Ways) : List Nat := ws.foldl (visit cs) met
def newWay (cs met : List Nat) (w : Option Nat) : Option Nat := w.map fun n => (met.map (clsOf cs)).idxOf (clsOf cs n)
def newStd (cs met : List Nat) (s : Std) : Std := (s.1, s.2.map (newWay cs met))
def stdOf (F : Form) (k : Nat) : Std := F.getD k ([], [])
def orderLoop (F : Form) (cs : List Nat) : Nat → List Nat → Form → Form
  | 0, _, told => told
  | f + 1, met, told => if told.length < met.length then
      orderLoop F cs f (visitAll cs met (stdOf F (met.getD told.length 0)).2) (told ++ [newStd cs (visitAll cs met (stdOf F (met.getD told.length 0)).2) (stdOf F (met.getD told.length 0))])
    else told
def inOrder (F : Form) (cs : List Nat) : Form := orderLoop F cs (F.length + 1) [0] []
theorem stdOf_get {F : Form} {k : Nat} (h : k < F.length) : F[k]? = some (stdOf F k) := by
  unfold stdOf
  rw [List.getD_eq_getElem?_getD, List.getElem?_eq_getElem h]
  rfl
theorem nodup_le : ∀ (n : Nat) (l : List Nat), l.Nodup → (∀ x ∈ l, x < n) → l.length ≤ n
  | 0, l, _, h => by
    cases l with
    | nil => exact Nat.le_refl _
    | cons x l => exact absurd (h x List.mem_cons_self) (Nat.not_lt_zero _)
  | n + 1, l, nd, h => by
    have h1 := nodup_le n (l.erase n) (nd.erase n) fun x hx => by
      have hx' := List.mem_of_mem_erase hx
      have h2 := h x hx'
      have h3 : x ≠ n := fun e => by
        rw [e] at hx
        exact nd.not_mem_erase hx
      omega
    have h4 : l.length ≤ (l.erase n).length + 1 := by
      rw [List.length_erase]
      split <;> omega
    omega
/-- what holds of the met ones -/
structure Met (F : Form) (cs met : List Nat) : Prop where
  nd : (met.map (clsOf cs)).Nodup
  lt : ∀ m ∈ met, m < F.length
theorem Met.len {F : Form} {cs met : List Nat} (h : Met F cs met) : met.length ≤ F.length :=
  nodup_le _ _ ((List.pairwise_map.mp h.nd).imp fun h e => h (congrArg _ e)) h.lt
theorem Met.visit {F : Form} {cs met : List Nat} (h : Met F cs met) {w : Option Nat} (hw : ∀ n, w = some n → n < F.length) : Met F cs (visit cs met w) := by
  cases w with
  | none => exact h
  | some n =>
    unfold QM.visit
    show Met F cs (if clsOf cs n ∈ met.map (clsOf cs) then met else met ++ [n])
    by_cases hm : clsOf cs n ∈ met.map (clsOf cs)
    · rw [if_pos hm]
      exact h
    · rw [if_neg hm]
      refine ⟨?_, fun m hm' => ?_⟩
      · rw [List.map_append, List.nodup_append]
        exact ⟨h.nd, by simp, fun a ha b hb => by rw [List.mem_singleton.mp hb]; exact fun e => hm (e ▸ ha)⟩
      · rcases List.mem_append.mp hm' with q | q
        · exact h.lt m q
        · rw [List.mem_singleton.mp q]
          exact hw n rfl
theorem visit_pre (cs met : List Nat) (w : Option Nat) : ∃ t, visit cs met w = met ++ t := by
  cases w with
  | none => exact ⟨[], by simp [visit]⟩
  | some n =>
    by_cases h : clsOf cs n ∈ met.map (clsOf cs)
    · exact ⟨[], by simp [visit, h]⟩
    · exact ⟨[n], by simp [visit, h]⟩
theorem visitAll_pre (cs : List Nat) : ∀ (ws : Ways) (met : List Nat), ∃ t, visitAll cs met ws = met ++ t
  | [], met => ⟨[], by simp [visitAll]⟩
  | w :: ws, met => by
    obtain ⟨t, e⟩ := visit_pre cs met w
    obtain ⟨t2, e2⟩ := visitAll_pre cs ws (visit cs met w)
    refine ⟨t ++ t2, ?_⟩
    show visitAll cs (visit cs met w) ws = _
    rw [e2, e, List.append_assoc]
theorem visit_has (cs met : List Nat) (n : Nat) : clsOf cs n ∈ (visit cs met (some n)).map (clsOf cs) := by
  by_cases h : clsOf cs n ∈ met.map (clsOf cs)
  · simpa [visit, h] using h
  · simp [visit, h]
theorem visitAll_has (cs : List Nat) : ∀ (ws : Ways) (met : List Nat) (n : Nat), some n ∈ ws → clsOf cs n ∈ (visitAll cs met ws).map (clsOf cs)
  | w :: ws, met, n, h => by
    rcases List.mem_cons.mp h with e | h
    · obtain ⟨t, e2⟩ := visitAll_pre cs ws (visit cs met w)
      show _ ∈ (visitAll cs (visit cs met w) ws).map _
      rw [e2, List.map_append]
      exact List.mem_append_left _ (by rw [← e]; exact visit_has cs met n)
    · exact visitAll_has cs ws (visit cs met w) n h
theorem Met.visitAll {F : Form} {cs : List Nat} : ∀ {ws : Ways} {met : List Nat}, Met F cs met → (∀ n, some n ∈ ws → n < F.length) → Met F cs (visitAll cs met ws)
  | [], _, h, _ => h
  | w :: ws, met, h, hw => Met.visitAll (ws := ws) (met := QM.visit cs met w) (h.visit fun n e => hw n (by rw [e]; exact List.mem_cons_self)) fun n hn => hw n (List.mem_cons_of_mem _ hn)

/-! ### needless ways -/
def isNeedless (F : Form) (S : List Bool) (word : Word) (t : Str) (n : Nat) : Bool := S.getD n false && decide ((stdOf F n).1 = word ++ [t])
def pruneWay (F : Form) (S : List Bool) (word : Word) (t : Str) : Option Nat → Option Nat
  | none => none
  | some n => if isNeedless F S word t n = true then none else some n
def pruneWays (tags : List Str) (F : Form) (S : List Bool) (s : Std) : Ways := (tags.zip s.2).map fun p => pruneWay F S s.1 p.1 p.2
def pruneStd (tags : List Str) (F : Form) (S : List Bool) (s : Std) : Std := (s.1, pruneWays tags F S s)
def needStep (tags : List Str) (F : Form) (st : Form × List Bool) (k : Nat) : Form × List Bool :=
  (st.1.set k (pruneStd tags F st.2 (stdOf st.1 k)), st.2.set k ((pruneWays tags F st.2 (stdOf st.1 k)).all Option.isNone))
def keyOf (F : Form) (k : Nat) : Int := -((stdOf F k).1.length : Int)
def byLen (F : Form) : List Nat := (List.range F.length).mergeSort fun i j => decide (keyOf F i ≤ keyOf F j)
def needFold (tags : List Str) (F : Form) (ks : List Nat) : Form × List Bool := ks.foldl (needStep tags F) (F, List.replicate F.length false)
def needless (tags : List Str) (F : Form) : Form := (needFold tags F (byLen F)).1
def least (tags : List Str) (F : Form) : Form := inOrder (needless tags F) (alike (needless tags F))

theorem pruneWays_len {tags : List Str} {F : Form} {S : List Bool} {s : Std} (h : s.2.length = tags.length) : (pruneWays tags F S s).length = tags.length := by
  unfold pruneWays
  rw [List.length_map, List.length_zip, h, Nat.min_self]
theorem pruneWays_get {tags : List Str} {F : Form} {S : List Bool} {s : Std} {k : Nat} {t : Str} {w : Option Nat} (ht : tags[k]? = some t) (hw : s.2[k]? = some w) : (pruneWays tags F S s)[k]? = some (pruneWay F S s.1 t w) := by
  have ez : (tags.zip s.2)[k]? = some (t, w) := by
    rw [List.getElem?_zip_eq_some]
    exact ⟨ht, hw⟩
  unfold pruneWays
  rw [List.getElem?_map, ez]
  rfl
theorem pruneWay_some {F : Form} {S : List Bool} {word : Word} {t : Str} {w : Option Nat} {n : Nat} (h : pruneWay F S word t w = some n) : w = some n := by
  cases w with
  | none => cases h
  | some m =>
    have h : (if isNeedless F S word t m = true then none else some m) = some n := h
    by_cases e : isNeedless F S word t m = true
    · rw [if_pos e] at h
      cases h
    · rw [if_neg e] at h
      exact h
theorem pruneWays_some {tags : List Str} {F : Form} {S : List Bool} {s : Std} {n : Nat} (h : some n ∈ pruneWays tags F S s) : some n ∈ s.2 := by
  obtain ⟨p, hp, e⟩ := List.mem_map.mp h
  rw [← pruneWay_some e]
  exact (List.of_mem_zip hp).2
/-- what stays through the steps -/
structure Pruned (tags : List Str) (F : Form) (st : Form × List Bool) : Prop where
  len : st.1.length = F.length
  lenS : st.2.length = F.length
  word : ∀ k s, st.1[k]? = some s → s.1 = (stdOf F k).1 ∧ s.2.length = (stdOf F k).2.length ∧ ∀ n, some n ∈ s.2 → some n ∈ (stdOf F k).2
theorem Pruned.start (tags : List Str) (F : Form) : Pruned tags F (F, List.replicate F.length false) := by
  refine ⟨rfl, List.length_replicate, fun k s h => ?_⟩
  have hk : k < F.length := (List.getElem?_eq_some_iff.mp h).1
  have h : F[k]? = some s := h
  rw [stdOf_get hk] at h
  cases h
  exact ⟨rfl, rfl, fun n h => h⟩
theorem Pruned.step {tags : List Str} {F : Form} {st : Form × List Bool} (p : Pruned tags F st) (g : Good tags F) {k : Nat} (hk : k < F.length) : Pruned tags F (needStep tags F st k) := by
  have h1 : st.1[k]? = some (stdOf st.1 k) := stdOf_get (by rw [p.len]; exact hk)
  obtain ⟨w1, w2, w3⟩ := p.word k _ h1
  have gl : (stdOf F k).2.length = tags.length := g.ways (stdOf_get hk)
  refine ⟨by show (st.1.set k _).length = _; rw [List.length_set, p.len], by show (st.2.set k _).length = _; rw [List.length_set, p.lenS], fun j s hj => ?_⟩
  have hj : (st.1.set k (pruneStd tags F st.2 (stdOf st.1 k)))[j]? = some s := hj
  by_cases e : k = j
  · subst e
    rw [List.getElem?_set_self (by rw [p.len]; exact hk)] at hj
    cases hj
    refine ⟨w1, ?_, fun n hn => w3 n (pruneWays_some hn)⟩
    show (pruneWays tags F st.2 (stdOf st.1 k)).length = _
    rw [pruneWays_len (by rw [w2, gl]), gl]
  · rw [List.getElem?_set_ne e] at hj
    exact p.word j s hj
theorem Pruned.fold {tags : List Str} {F : Form} (g : Good tags F) : ∀ (ks : List Nat) (st : Form × List Bool), Pruned tags F st → (∀ k ∈ ks, k < F.length) → Pruned tags F (ks.foldl (needStep tags F) st)
  | [], _, p, _ => p
  | k :: ks, st, p, h => Pruned.fold g ks (needStep tags F st k) (p.step g (h k List.mem_cons_self)) fun j hj => h j (List.mem_cons_of_mem _ hj)
theorem byLen_lt {F : Form} {k : Nat} (h : k ∈ byLen F) : k < F.length := by
  unfold byLen at h
  rw [List.mem_mergeSort] at h
  exact List.mem_range.mp h
theorem byLen_len (F : Form) : (byLen F).length = F.length := by
  unfold byLen
  rw [List.length_mergeSort, List.length_range]
theorem mix_get {α : Type} {P Q : List α} {j : Nat} (h : P.length = Q.length) (hj : j < Q.length) : (P.take j ++ Q.drop j)[j]? = Q[j]? := by
  rw [List.getElem?_append_right (by rw [List.length_take]; omega), List.length_take, Nat.min_eq_left (by omega), Nat.sub_self, List.getElem?_drop, Nat.add_zero]
theorem mix_set {α : Type} {P Q : List α} {j : Nat} {x : α} (h : P.length = Q.length) (hj : P[j]? = some x) : (P.take j ++ Q.drop j).set j x = P.take (j + 1) ++ Q.drop (j + 1) := by
  have hj' : j < P.length := (List.getElem?_eq_some_iff.mp hj).1
  rw [List.set_append_right _ _ (by rw [List.length_take]; omega), List.length_take, Nat.min_eq_left (by omega), Nat.sub_self, List.take_succ, hj, List.drop_eq_getElem_cons (by omega : j < Q.length), List.set_cons_zero]
  simp
theorem mix_same {α : Type} {P Q : List α} {j : Nat} {x : α} (h : P.length = Q.length) (hj : P[j]? = some x) (hq : Q[j]? = some x) : P.take j ++ Q.drop j = P.take (j + 1) ++ Q.drop (j + 1) := by
  rw [← mix_set h hj]
  have hl : (P.take j ++ Q.drop j)[j]? = some x := by
    rw [mix_get h (List.getElem?_eq_some_iff.mp hq).1]
    exact hq
  refine List.ext_getElem? fun i => ?_
  by_cases e : j = i
  · subst e
    rw [List.getElem?_set_self (List.getElem?_eq_some_iff.mp hl).1, hl]
  · rw [List.getElem?_set_ne e]
end QM
end

section
set_option Elab.async false
set_option linter.all false
set_option maxRecDepth 100000
/-! Qown: len and == by the class's own methods, with any answer. -/
namespace QO
open PySem PySem.Spec PyProof.Rows L2
section
variable {X : Cx} {CX : CXT} {k : Nat} {f C : Addr} {fd : FuncData} {ps : List Str} {sp : Sp} {E : XK}
theorem run_in {A : Around} {pins : List (Addr × Obj)} {σ : L2.St} {H : Hp} {s : Shared} {Q : VK} {us : List Value} {vs : List V} (sb : Sub X k A) (F : FnOk X.prog X.w X.K X.mg X.base CX k f fd ps sp) (hb : Binds X.K fd ps []) (hx : Passes CX X E)
    (I : Inv X pins σ H s) (r : Vals vs us) (h : sp vs H Q E) : wpAny (model X.prog X.w) A (call (.ref f) us) (EP X pins σ Q) X.xe s := by
  have hl : us.length = ps.length := by rw [← r.length]; exact F.len _ _ _ _ h
  have e0 : Env0 X.prog X.w X.K X.mg X.base A X.stack s H := by
    have e := I.env0
    exact ⟨by rw [sb.fr]; exact e.frames, e.mod, e.bs, e.bsz, e.funs, e.frf, e.hok, e.bare⟩
  refine wpAny_call (codeAny_mono (F.run A X.stack s H ⟨us, []⟩ us vs Q E sb.room e0 (by
    have := hb s us I.kIn (by simpa using hl)
    simpa using this) r h) fun r s' hq => ?_)
  cases r with
  | error e => exact hx pins σ H s e s' I hq
  | ok fl =>
    cases fl with
    | ret u => exact I.after hq
    | next => exact False.elim hq
    | brk => exact False.elim hq
    | cont => exact False.elim hq
/-- len(x) by an own __len__ -/
def rLenO (C : Addr) (sp : Sp) (E : XK) : List V → Hp → VK → Prop := fun xs H Q => ∃ a dx fs, xs = [.ref a] ∧ H a = some (.ins C dx fs) ∧ sp [.ref a] H (fun v H' => ∃ n : Nat, v = .int (n : Int) ∧ n < sizeLine ∧ Q v H') E
theorem call_lenO (F : FnOk X.prog X.w X.K X.mg X.base CX k f fd ps sp) (hm : Meth X.K C "__len__" f) (hr : Room (k + 1) X.A) (hb : Binds X.K fd ps []) (hx : Passes CX X E) : CallR X (.builtin "len") (rLenO C sp E) := by
  intro pins s σ H xs us Q I r h
  obtain ⟨a, dx, fs, rfl, ha, h⟩ := h
  obtain ⟨u, rfl, ru⟩ := vals1 r
  cases ru
  obtain ⟨mA, J, _⟩ := ins_get I.hok ha
  obtain ⟨od, J, _⟩ := J.look
  obtain ⟨m, hF⟩ := I.fr
  refine PySem.W.len_K hF I.ok.mod.kin J hm.at_ hm.fn ?_
  refine wpAny_mono (run_in (A := X.A.in1) (vs := [.ref a]) ⟨hr.in1, rfl⟩ F hb hx I (.cons rfl .nil) h) (fun v s' q => ?_) fun _ _ x => x
  obtain ⟨v', H', I', rv, n, rfl, hn, q⟩ := q
  obtain ⟨t, rfl⟩ := (show ∃ t, v = Value.int (n : Int) t from rv)
  have hs : sizeLine = 16777216 := sizeLine_eq
  exact ⟨⟨by omega, by omega⟩, .int (n : Int), H', I'.tok _, ⟨_, rfl⟩, q⟩
/-- x == y by an own __eq__ -/
def rEqO (K : PySem.W.Frag) (C : Addr) (sp : Sp) (E : XK) : R2 := fun x y H Q => ∃ a dx fs t, x = .ref a ∧ H a = some (.ins C dx fs) ∧ TyOf K H y t ∧ PySem.W.notFirst K C t = true ∧ sp [.ref a, y] H (fun v H' => ∃ b : Bool, v = .bl b ∧ Q v H') E
theorem looks_ty {pins : List (Addr × Obj)} {σ : L2.St} {H : Hp} {s : Shared} {x : V} {u t : Value} (I : Inv X pins σ H s) (rx : RelV x u) (ty : TyOf X.K H x t) : PySem.W.Looks (model X.prog X.w) s.heap (typeOf u) t := by
  have ob : ∀ {a : Addr} {o : Obj}, s.heap.get? a = some o → PySem.W.Looks (model X.prog X.w) s.heap (typeOf (.ref a)) o.cls := fun e => PySem.W.Looks.ld e |>.andThen (PySem.W.Looks.now)
  cases ty with
  | non => cases (show u = Value.none from rx); exact PySem.W.Looks.of_pure rfl
  | bl y => cases (show u = Value.bool y from rx); exact PySem.W.Looks.of_pure rfl
  | int i => obtain ⟨t, q⟩ := (show ∃ t, u = Value.int i t from rx); cases q; exact PySem.W.Looks.of_pure rfl
  | str y => obtain ⟨t, q⟩ := (show ∃ t, u = Value.str y t from rx); cases q; exact PySem.W.Looks.of_pure rfl
  | flt y => obtain ⟨t, q⟩ := (show ∃ t, u = Value.float y t from rx); cases q; exact PySem.W.Looks.of_pure rfl
  | @lst a xs ea =>
    cases (show u = Value.ref a from rx)
    obtain ⟨_, _, n, _, h1⟩ := (show ObjOk X.prog X.w H s.heap a (.lst xs) from I.hok a _ ea)
    exact ob h1
  | @frz a ob' xs ea =>
    cases (show u = Value.ref a from rx)
    obtain ⟨_, _, _, n, _, h1⟩ := (show ObjOk X.prog X.w H s.heap a (.frz ob' (.lst xs)) from I.hok a _ ea)
    exact ob h1
  | @tup a xs ea =>
    cases (show u = Value.ref a from rx)
    obtain ⟨_, _, _, o, h1, h2, _⟩ := (show ObjOk X.prog X.w H s.heap a (.tup xs) from I.hok a _ ea)
    rw [← h2]
    exact ob h1
  | @dK a kvs ea =>
    cases (show u = Value.ref a from rx)
    obtain ⟨_, _, vs, _, o, es, ep, h1, h2, _⟩ := (show ObjOk X.prog X.w H s.heap a (.dK kvs) from I.hok a _ ea)
    rw [← h2.1]
    exact ob h1
  | @dT a kvs ea =>
    cases (show u = Value.ref a from rx)
    obtain ⟨_, _, xs, _, o, es, ep, h1, h2, _⟩ := (show ObjOk X.prog X.w H s.heap a (.dT kvs) from I.hok a _ ea)
    rw [← h2.1]
    exact ob h1
  | @ins a C dx fs ea cl ha hn htk hm =>
    cases (show u = Value.ref a from rx)
    obtain ⟨mA, O, _⟩ := ins_get I.hok ea
    obtain ⟨od, J, _⟩ := O.look
    exact J.type
theorem op_eqO (F : FnOk X.prog X.w X.K X.mg X.base CX k f fd ps sp) (hm : Meth X.K C "__eq__" f) (hr : Room k X.A) (hb : Binds X.K fd ps []) (hx : Passes CX X E) : OpR X (compareOp .Eq) (rEqO X.K C sp E) := by
  intro pins s σ H x y v u Q I rx ry h
  obtain ⟨a, dx, fs, t, rfl, ha, ht, hn, h⟩ := h
  cases rx
  obtain ⟨mA, J, _⟩ := ins_get I.hok ha
  obtain ⟨od, J, _⟩ := J.look
  obtain ⟨m, hF⟩ := I.fr
  show wpAny (model X.prog X.w) X.A (richCompare .Eq _ u) (EP X pins σ Q) X.xe s
  refine PySem.W.cmp_K (op := .Eq) hr.units0 hF I.ok.mod.kin J (looks_ty I ry ht) hn hm.at_ hm.fn ?_
  refine wpAny_mono (run_in (A := X.A) (vs := [.ref a, y]) ⟨hr, rfl⟩ F hb hx I (.cons rfl (.cons ry .nil)) h) (fun v s' q => ?_) fun _ _ x => x
  obtain ⟨v', H', I', rv, b, rfl, q⟩ := q
  cases rv
  exact ⟨.bl b, H', I', rfl, q⟩
/-- x in y by an own __contains__ -/
def rInO (C : Addr) (sp : Sp) (E : XK) (neg : Bool) : R2 := fun x y H Q => ∃ a dx fs, y = .ref a ∧ H a = some (.ins C dx fs) ∧ sp [.ref a, x] H (fun v H' => ∃ b : Bool, v = .bl b ∧ Q (.bl (if neg then !b else b)) H') E
theorem op_inO (F : FnOk X.prog X.w X.K X.mg X.base CX k f fd ps sp) (hm : Meth X.K C "__contains__" f) (hr : Room k X.A) (hb : Binds X.K fd ps []) (hx : Passes CX X E) : OpR X (compareOp .In) (rInO C sp E false) := by
  intro pins s σ H x y v u Q I rx ry h
  obtain ⟨a, dx, fs, rfl, ha, h⟩ := h
  cases ry
  obtain ⟨mA, J, _⟩ := ins_get I.hok ha
  obtain ⟨od, J, _⟩ := J.look
  obtain ⟨m, hF⟩ := I.fr
  refine PySem.W.in_K hF I.ok.mod.kin J hm.at_ hm.fn ?_
  refine wpAny_mono (run_in (A := X.A) (vs := [.ref a, x]) ⟨hr, rfl⟩ F hb hx I (.cons rfl (.cons rx .nil)) h) (fun v' s' q => ?_) fun _ _ x => x
  obtain ⟨z, H', I', rv, b, rfl, q⟩ := q
  cases rv
  exact wpAny_truthy_bool ⟨.bl b, H', I', rfl, q⟩
theorem op_notInO (F : FnOk X.prog X.w X.K X.mg X.base CX k f fd ps sp) (hm : Meth X.K C "__contains__" f) (hr : Room k X.A) (hb : Binds X.K fd ps []) (hx : Passes CX X E) : OpR X (compareOp .NotIn) (rInO C sp E true) := by
  intro pins s σ H x y v u Q I rx ry h
  obtain ⟨a, dx, fs, rfl, ha, h⟩ := h
  cases ry
  obtain ⟨mA, J, _⟩ := ins_get I.hok ha
  obtain ⟨od, J, _⟩ := J.look
  obtain ⟨m, hF⟩ := I.fr
  refine PySem.W.notIn_K hF I.ok.mod.kin J hm.at_ hm.fn ?_
  refine wpAny_mono (run_in (A := X.A) (vs := [.ref a, x]) ⟨hr, rfl⟩ F hb hx I (.cons rfl (.cons rx .nil)) h) (fun v' s' q => ?_) fun _ _ x => x
  obtain ⟨z, H', I', rv, b, rfl, q⟩ := q
  cases rv
  exact wpAny_truthy_bool ⟨.bl (!b), H', I', rfl, q⟩
end
/-- text * 0, text * 1 -/
theorem op_mul_str {X : Cx} : OpR X (binaryOp .Mult) (fun x y H Q => ∃ z, x = .str z ∧ ((y = .int 0 ∧ Q (.str Str.empty) H) ∨ (y = .int 1 ∧ Q (.str z) H))) := by
  intro pins s σ H x y v u Q I rx ry h
  obtain ⟨z, rfl, h⟩ := h
  obtain ⟨t, rfl⟩ := (show ∃ t, v = Value.str z t from rx)
  rcases h with ⟨rfl, q⟩ | ⟨rfl, q⟩
  · obtain ⟨t', rfl⟩ := (show ∃ t, u = Value.int 0 t from ry)
    exact PySem.P.mul_str_none (by decide) (by decide) ⟨.str Str.empty, H, I.tok _, ⟨_, rfl⟩, q⟩
  · obtain ⟨t', rfl⟩ := (show ∃ t, u = Value.int 1 t from ry)
    refine PySem.P.mul_str (by decide) (fun _ e => by simp at e) (fun _ e => by simp at e) ?_
    rw [if_neg (by decide), if_pos (by simp)]
    exact ⟨.str z, H, I, ⟨_, rfl⟩, q⟩
/-- xs.count(y), flat things -/
def rCount (K : PySem.W.Frag) : V → List V → Hp → VK → Prop := fun x xs H Q => ∃ (a : Addr) (ys : List V) (y : V), x = .ref a ∧ xs = [y] ∧ SqL K H a ys ∧ flatV y = true ∧ ys.all flatV = true ∧ Q (.int ((ys.countP fun z => eqV z y : Nat) : Int)) H
theorem count_eqU {y : V} : ∀ {ys : List V} {us : List Value}, Vals ys us → ys.all flatV = true → us.countP (eqU y) = ys.countP fun z => eqV z y
  | _, _, .nil, _ => rfl
  | z :: ys, u :: us, .cons r t, h => by
    rw [List.all_cons, Bool.and_eq_true] at h
    rw [List.countP_cons, List.countP_cons, count_eqU t h.2, eqU_of r h.1]
theorem mt_countL {X : Cx} : MtR X "list.count" (rCount X.K) := by
  intro pins s σ H x xs v us Q I rx rxs h
  obtain ⟨a, ys, y, rfl, rfl, hs, fy, fys, q⟩ := h
  cases rx
  cases rxs with
  | cons ry rt =>
    rename_i uy ut
    cases rt
    obtain ⟨its, rv, ⟨⟨cls, dd, data, sl⟩, n, ho, hc, hdn, hd⟩, hlen⟩ := I.list hs
    simp only at hc hd
    subst hc hd
    refine call_meets PySem.F.slot_list_count ⟨_, ho, rfl⟩ PySem.F.entry_list_count (PySem.F.args_list_count_2 _ _)
      (SeqAt.list_countAt a its.toArray n dd sl uy (eqU y)) ⟨ho, fun u' hu' => mem_eqAt ry fy rv fys u' (by simpa using hu'), ?_⟩
    refine ⟨.int ((ys.countP fun z => eqV z y : Nat) : Int), H, I.tok _, ⟨s.toks, ?_⟩, q⟩
    show Value.int ((its.toArray.toList.countP (eqU y) : Nat) : Int) s.toks = _
    rw [show its.toArray.toList.countP (eqU y) = ys.countP fun z => eqV z y from count_eqU rv fys]
theorem mt_countK {X : Cx} (K : PySem.W.Frag) (h : X.K = K := by rfl) : MtR X "list.count" (rCount K) := h ▸ mt_countL
/-- what isinstance and == ask of an own class -/
structure OwnC (K : PySem.W.Frag) (C : Addr) : Prop where
  ha : PySem.W.findIn K (.ref C) "__class__" = some (some (.builtin "object.__class__"))
  hn : PySem.W.specialIn K (.builtin "object.__class__") "__get__" = some (some (.builtin "getset_descriptor.__get__"))
  htk : PySem.W.takesIn K (.builtin "object.__class__") = some true
  hm : PySem.W.mroIn K C (.type "object") = some true
  kL : PySem.W.kitOne K (.type "list") (.ref C) = some false
  kT : PySem.W.kitOne K (.type "tuple") (.ref C) = some false
  kS : PySem.W.kitOne K (.type "str") (.ref C) = some false
  kI : PySem.W.kitOne K (.type "int") (.ref C) = some false
  kB : PySem.W.kitOne K (.type "bool") (.ref C) = some false
  kN : PySem.W.kitOne K (.type "NoneType") (.ref C) = some false
  kD : PySem.W.kitOne K (.type "dict") (.ref C) = some false
  cL : PySem.W.kitOne K (.ref C) (.type "list") = some false
  cT : PySem.W.kitOne K (.ref C) (.type "tuple") = some false
  cS : PySem.W.kitOne K (.ref C) (.type "str") = some false
  cI : PySem.W.kitOne K (.ref C) (.type "int") = some false
  cB : PySem.W.kitOne K (.ref C) (.type "bool") = some false
  nL : PySem.W.notFirst K C (.type "list") = true
  nT : PySem.W.notFirst K C (.type "tuple") = true
  nS : PySem.W.notFirst K C (.type "str") = true
  nI : PySem.W.notFirst K C (.type "int") = true
  nB : PySem.W.notFirst K C (.type "bool") = true
  nN : PySem.W.notFirst K C (.type "NoneType") = true
  nD : PySem.W.notFirst K C (.type "dict") = true
theorem OwnC.self {K : PySem.W.Frag} {C : Addr} : PySem.W.kitOne K (.ref C) (.ref C) = some true := if_pos (by simp)
theorem OwnC.same {K : PySem.W.Frag} {C : Addr} : PySem.W.notFirst K C (.ref C) = true := by simp [PySem.W.notFirst]
theorem OwnC.ty {K : PySem.W.Frag} {C a dx : Addr} {H : Hp} {fs : List (Str × V)} (o : OwnC K C) (c : Cls K C) (e : H a = some (.ins C dx fs)) : TyOf K H (.ref a) (.ref C) := .ins e c o.ha o.hn o.htk o.hm
end QO
end

section
set_option Elab.async false
set_option linter.all false
set_option maxRecDepth 100000
/-! Qdata: == and != of lists within lists and tuples, by what they hold. -/
namespace QB
open PySem PySem.Spec PyProof.Rows L2
structure Enc {α : Type} [DecidableEq α] (D : α → PyData) (ok : α → Prop) (n : Nat) : Prop where
  eq : ∀ x y, PyData.eqv (D x) (D y) = decide (x = y)
  lay : ∀ x, ok x → PyData.canLay0 (D x) = true
  dep : ∀ x, PyData.depth (D x) ≤ n
section
variable {α β : Type} [DecidableEq α] [DecidableEq β] {D : α → PyData} {E : β → PyData} {ok : α → Prop} {ok2 : β → Prop} {n m : Nat} {K : PySem.W.Frag} {H : Hp}
theorem Enc.eqAll (e : Enc D ok n) : ∀ l k : List α, PyData.eqvAll (l.map D) (k.map D) = decide (l = k)
  | [], [] => by simp [PyData.eqvAll]
  | [], _ :: _ => by simp [PyData.eqvAll]
  | _ :: _, [] => by simp [PyData.eqvAll]
  | x :: l, y :: k => by
    rw [List.map_cons, List.map_cons, PyData.eqvAll, e.eq, e.eqAll l k]
    by_cases h : x = y
    · subst h
      by_cases h2 : l = k <;> simp [h2]
    · simp [h]
theorem Enc.layAll (e : Enc D ok n) : ∀ l : List α, (∀ x ∈ l, ok x) → PyData.canLayAll0 (l.map D) = true
  | [], _ => by simp [PyData.canLayAll0]
  | x :: l, h => by
    rw [List.map_cons, PyData.canLayAll0, e.lay x (h x List.mem_cons_self), e.layAll l fun y hy => h y (List.mem_cons_of_mem _ hy)]
    rfl
theorem Enc.depAll (e : Enc D ok n) : ∀ l : List α, PyData.depthAll (l.map D) ≤ n
  | [] => by simp [PyData.depthAll]
  | x :: l => by
    rw [List.map_cons, PyData.depthAll]
    exact Nat.max_le.mpr ⟨e.dep x, e.depAll l⟩
theorem Enc.list (e : Enc D ok n) : Enc (fun l : List α => PyData.list (l.map D)) (fun l => ∀ x ∈ l, ok x) (n + 1) :=
  ⟨fun l k => by rw [PyData.eqv]; exact e.eqAll l k, fun l h => by rw [PyData.canLay0]; exact e.layAll l h, fun l => by rw [PyData.depth]; exact Nat.succ_le_succ (e.depAll l)⟩
theorem Enc.mono (e : Enc D ok n) (h : n ≤ m) : Enc D ok m := ⟨e.eq, e.lay, fun x => Nat.le_trans (e.dep x) h⟩
theorem Enc.pair (e : Enc D ok n) (f : Enc E ok2 n) : Enc (fun p : α × β => PyData.tuple [D p.1, E p.2]) (fun p => ok p.1 ∧ ok2 p.2) (n + 1) := by
  refine ⟨fun p q => ?_, fun p h => ?_, fun p => ?_⟩
  · rw [PyData.eqv, PyData.eqvAll, PyData.eqvAll, PyData.eqvAll, e.eq, f.eq, Bool.and_true]
    obtain ⟨p1, p2⟩ := p
    obtain ⟨q1, q2⟩ := q
    by_cases h1 : p1 = q1 <;> by_cases h2 : p2 = q2 <;> simp [h1, h2]
  · rw [PyData.canLay0, PyData.canLayAll0, PyData.canLayAll0, PyData.canLayAll0, e.lay _ h.1, f.lay _ h.2]
    rfl
  · rw [PyData.depth, PyData.depthAll, PyData.depthAll, PyData.depthAll]
    have := e.dep p.1
    have := f.dep p.2
    omega
theorem Enc.two (e : Enc D ok n) (f : Enc E ok2 n) : Enc (fun p : α × β => PyData.list [D p.1, E p.2]) (fun p => ok p.1 ∧ ok2 p.2) (n + 1) := by
  refine ⟨fun p q => ?_, fun p h => ?_, fun p => ?_⟩
  · rw [PyData.eqv, PyData.eqvAll, PyData.eqvAll, PyData.eqvAll, e.eq, f.eq, Bool.and_true]
    obtain ⟨p1, p2⟩ := p
    obtain ⟨q1, q2⟩ := q
    by_cases h1 : p1 = q1 <;> by_cases h2 : p2 = q2 <;> simp [h1, h2]
  · rw [PyData.canLay0, PyData.canLayAll0, PyData.canLayAll0, PyData.canLayAll0, e.lay _ h.1, f.lay _ h.2]
    rfl
  · rw [PyData.depth, PyData.depthAll, PyData.depthAll, PyData.depthAll]
    have := e.dep p.1
    have := f.dep p.2
    omega
theorem enc_str : Enc PyData.str (fun t => PyData.strOk t = true) 0 := ⟨fun x y => by
  rw [PyData.eqv]
  by_cases h : x = y <;> simp [h], fun x h => by rw [PyData.canLay0]; exact h, fun x => by simp [PyData.depth]⟩
theorem enc_int : Enc PyData.int (fun _ => True) 0 := ⟨fun x y => by
  rw [PyData.eqv]
  by_cases h : x = y <;> simp [h], fun x h => by rw [PyData.canLay0], fun x => by simp [PyData.depth]⟩
theorem enc_bool : Enc PyData.bool (fun _ => True) 0 := ⟨fun x y => by
  rw [PyData.eqv]
  by_cases h : x = y <;> simp [h], fun x h => by rw [PyData.canLay0], fun x => by simp [PyData.depth]⟩
def dW : Option Nat → PyData
  | none => .none
  | some n => .int (n : Int)
theorem enc_way : Enc dW (fun _ => True) 0 := by
  refine ⟨fun x y => ?_, fun x _ => ?_, fun x => ?_⟩
  · cases x <;> cases y <;> simp [dW, PyData.eqv]
    rename_i a b
    by_cases h : a = b
    · simp [h]
    · have : ¬ (a : Int) = (b : Int) := by omega
      simp [h, this]
  · cases x <;> simp [dW, PyData.canLay0]
  · cases x <;> simp [dW, PyData.depth]
def dWord (w : Word) : PyData := .list (w.map .str)
def dWays (w : Ways) : PyData := .list (w.map dW)
def dStd (s : Std) : PyData := .tuple [dWord s.1, dWays s.2]
def dForm (F : Form) : PyData := .list (F.map dStd)
def OkWord (w : Word) : Prop := ∀ t ∈ w, PyData.strOk t = true
def OkForm (F : Form) : Prop := ∀ s ∈ F, OkWord s.1
theorem enc_word : Enc dWord OkWord 1 := enc_str.list
theorem enc_ways : Enc dWays (fun w => ∀ x ∈ w, True) 1 := enc_way.list
theorem enc_std : Enc dStd (fun s => OkWord s.1 ∧ ∀ x ∈ s.2, True) 2 := enc_word.pair enc_ways
theorem enc_form : Enc dForm (fun F => ∀ s ∈ F, OkWord s.1 ∧ ∀ x ∈ s.2, True) 3 := enc_std.list
theorem OkForm.enc {F : Form} (h : OkForm F) : ∀ s ∈ F, OkWord s.1 ∧ ∀ x ∈ s.2, True := fun s hs => ⟨h s hs, fun _ _ => trivial⟩
theorem dpAll_map (f : α → V) (g : α → PyData) (h : ∀ x, Dp K H (f x) (g x)) : ∀ l : List α, DpAll K H (l.map f) (l.map g)
  | [] => .nil
  | x :: l => .cons (h x) (dpAll_map f g h l)
theorem dp_wd {a : Addr} {w : Word} (h : WordAt H a w) : Dp K H (.ref a) (dWord w) := .lst (SqL.of h) (dpAll_map _ _ (fun x => .str x) w)
theorem dp_way : ∀ x : Option Nat, Dp K H (vW x) (dW x)
  | none => .non
  | some n => .int (n : Int)
theorem dp_ways {a : Addr} {w : Ways} (h : WaysAt H a w) : Dp K H (.ref a) (dWays w) := .lst (SqL.of h) (dpAll_map _ _ dp_way w)
theorem dp_std {a : Addr} {s : Std} (h : StdAt H a s) : Dp K H (.ref a) (dStd s) := by
  obtain ⟨x, y, h1, h2, h3⟩ := h
  exact .tup (SqT.of h1) (.cons (dp_wd h2) (.cons (dp_ways h3) .nil))
theorem dp_form {a : Addr} {F : Form} (h : FormAt H a F) : Dp K H (.ref a) (dForm F) := by
  obtain ⟨ts, h1, h2⟩ := h
  refine .lst (SqL.of h1) ?_
  clear h1
  induction h2 with
  | nil => exact .nil
  | cons h _ ih => exact .cons (dp_std h) ih
theorem shaped_of (e : Enc D ok n) (hn : n ≤ 64) {x : α} (h : ok x) : SeqAt.shaped (D x) = true := by
  unfold SeqAt.shaped
  rw [Bool.and_eq_true]
  exact ⟨e.lay x h, decide_eq_true (Nat.le_trans (e.dep x) hn)⟩
theorem eq_enc (e : Enc D ok n) (hn : n ≤ 64) {u v : V} {x y : α} {Q : VK} (hx : Dp K H u (D x)) (hy : Dp K H v (D y)) (ox : ok x) (oy : ok y) (q : Q (.bl (decide (x = y))) H) : rEqD K u v H Q :=
  ⟨_, _, hx, hy, shaped_of e hn ox, shaped_of e hn oy, by rw [e.eq]; exact q⟩
theorem ne_enc (e : Enc D ok n) (hn : n ≤ 64) {u v : V} {x y : α} {Q : VK} (hx : Dp K H u (D x)) (hy : Dp K H v (D y)) (ox : ok x) (oy : ok y) (q : Q (.bl (!decide (x = y))) H) : rNeD K u v H Q :=
  ⟨_, _, hx, hy, shaped_of e hn ox, shaped_of e hn oy, by rw [e.eq]; exact q⟩
theorem eq_wd {a b : Addr} {v w : Word} {Q : VK} (hv : WordAt H a v) (hw : WordAt H b w) (ov : OkWord v) (ow : OkWord w) (q : Q (.bl (decide (v = w))) H) : rEqD K (.ref a) (.ref b) H Q := eq_enc enc_word (by decide) (dp_wd hv) (dp_wd hw) ov ow q
theorem ne_wd {a b : Addr} {v w : Word} {Q : VK} (hv : WordAt H a v) (hw : WordAt H b w) (ov : OkWord v) (ow : OkWord w) (q : Q (.bl (!decide (v = w))) H) : rNeD K (.ref a) (.ref b) H Q := ne_enc enc_word (by decide) (dp_wd hv) (dp_wd hw) ov ow q
theorem eq_form {a b : Addr} {F G : Form} {Q : VK} (hv : FormAt H a F) (hw : FormAt H b G) (ov : OkForm F) (ow : OkForm G) (q : Q (.bl (decide (F = G))) H) : rEqD K (.ref a) (.ref b) H Q := eq_enc enc_form (by decide) (dp_form hv) (dp_form hw) ov.enc ow.enc q
theorem ne_form {a b : Addr} {F G : Form} {Q : VK} (hv : FormAt H a F) (hw : FormAt H b G) (ov : OkForm F) (ow : OkForm G) (q : Q (.bl (!decide (F = G))) H) : rNeD K (.ref a) (.ref b) H Q := ne_enc enc_form (by decide) (dp_form hv) (dp_form hw) ov.enc ow.enc q
end
end QB
end

section
set_option Elab.async false
set_option linter.all false
set_option maxRecDepth 100000
/-! Qmore: rules with the written part named, for turned lists and the truth of a list. -/
namespace QN
open PySem PySem.Spec PyProof.Rows L2
section
variable {X : Cx} (K : PySem.W.Frag)
theorem pe_turn {e : Expr} {te : TE} {k : Nat} {p1 p2 p3 pos : Pos} (he : PE X e te) (h : X.K = K := by rfl) : PE X (.Subscript e (.Slice none none (some (.UnaryOp .USub (.Constant (.int 1) k p1) p2)) p3) pos) (tRevL K te) := h ▸ pe_revL he
def tTru (K : PySem.W.Frag) (ta : TE) : TT := fun σ H Q => ta σ H fun x H' => ∃ k, TruV K x H' k ∧ Q k H'
theorem pt_tru {a : Expr} {ta : TE} (ha : PE X a ta) (h : X.K = K := by rfl) (he : ∀ whole, isTrue a X.env whole = (do let v ← whole; standAt a.pos; holding [v] (truthy v)) := by intro _; rfl) : PT X a (tTru K ta) := h ▸ pt_truth ha he
theorem sl_tupK (h : X.K = K := by rfl) : SlR X (rSlT K) := h ▸ sl_tup
end
end QN
namespace QB
open PySem PySem.Spec PyProof.Rows L2
theorem enc_nat : Enc (fun n : Nat => PyData.int (n : Int)) (fun _ => True) 0 := ⟨fun x y => by
  have e := enc_int.eq (x : Int) (y : Int)
  rw [e]
  by_cases h : x = y
  · subst h
    simp
  · rw [decide_eq_false h, decide_eq_false (by omega)], fun x _ => enc_int.lay (x : Int) trivial, fun x => enc_int.dep (x : Int)⟩
def dNats (row : List Nat) : PyData := .list (row.map fun n : Nat => PyData.int (n : Int))
theorem enc_nats : Enc dNats (fun l => ∀ x ∈ l, True) 1 := enc_nat.list
theorem dp_nats {K : PySem.W.Frag} {H : Hp} {a : Addr} {row : List Nat} (h : H a = some (.lst (row.map fun (n : Nat) => V.int (n : Int)))) : Dp K H (.ref a) (dNats row) := .lst (SqL.of h) (dpAll_map _ _ (fun x => .int _) row)
end QB
end

section
set_option Elab.async false
set_option linter.all false
set_option maxRecDepth 100000
/-! Qtext: texts by their signs. -/
namespace QT
open PySem PySem.Spec PyProof.Rows L2 TL
theorem tl_cutL (z : Str) (k : Nat) : tl (cutS z none (some (k : Int))) = (tl z).take k := by
  unfold cutS
  rw [HT.sIx_nat, HT.sIx_none, List.drop_zero, Nat.sub_zero, tl_mk]
  show _ = z.cps.toList.take k
  have e : z.length = z.cps.toList.length := len_tl z
  by_cases h : k ≤ z.length
  · rw [Nat.min_eq_left h]
  · rw [Nat.min_eq_right (by omega), List.take_of_length_le (by omega), List.take_of_length_le (by omega)]
theorem tl_cutR (z : Str) (k : Nat) : tl (cutS z (some (k : Int)) none) = (tl z).drop k := by
  unfold cutS
  rw [HT.sIx_nat, HT.sIx_none, tl_mk]
  show _ = z.cps.toList.drop k
  have e : z.length = z.cps.toList.length := len_tl z
  by_cases h : k ≤ z.length
  · rw [Nat.min_eq_left h, List.take_of_length_le (by rw [List.length_drop]; omega)]
  · rw [Nat.min_eq_right (by omega), List.drop_eq_nil_of_le (by omega), List.drop_eq_nil_of_le (by omega), List.take_nil]
theorem joinL_nil : ∀ l : List (List Nat), joinL [] l = l.flatten
  | [] => rfl
  | [p] => by simp [joinL]
  | p :: q :: r => by
    rw [joinL, joinL_nil (q :: r)]
    simp
theorem tl_join0 (ys : List Str) : tl (Txt.join Str.empty ys) = (ys.map tl).flatten := by
  rw [join_eq, tl_join]
  exact joinL_nil _
/-- the letters -/
def abc : Str := "abcdefghijklmnopqrstuvwxyz"
theorem abc_len : abc.length = 26 := by decide +kernel
theorem abc_tl : tl abc = (List.range 26).map (97 + ·) := by decide +kernel
theorem abc_mem {c : Nat} : c ∈ tl abc ↔ 97 ≤ c ∧ c < 123 := by
  rw [abc_tl, List.mem_map]
  constructor
  · rintro ⟨i, hi, rfl⟩
    rw [List.mem_range] at hi
    omega
  · rintro ⟨h1, h2⟩
    exact ⟨c - 97, List.mem_range.mpr (by omega), by omega⟩
theorem abc_at {i : Nat} (h : i < 26) : abc.cps[i]? = some (97 + i) := by
  have e : (tl abc)[i]? = some (97 + i) := by
    rw [abc_tl, List.getElem?_map, List.getElem?_range h]
    rfl
  rw [← e]
  simp [tl]
theorem abc_item {i : Int} (h0 : 0 ≤ i) (h : i < 26) : abc.cps[i.toNat]? = some (97 + i.toNat) := abc_at (by omega)
/-- a sign within fixed ones -/
theorem mid_inj {A B T T' : List Nat} {c d : Nat} (h : A ++ [c] ++ B ++ T = A ++ [d] ++ B ++ T') : c = d := by
  have e := congrArg (fun l : List Nat => l[A.length]?) h
  simpa using e
end QT
end

section
set_option Elab.async false
set_option linter.all false
set_option maxRecDepth 100000
/-! Qend: from the Hook's facts to the text's. -/
namespace QE
open PySem PySem.Spec PyProof.Rows L2 He
def ownB (K : PySem.W.Frag) (C : Addr) : Bool :=
  (eqO (PySem.W.findIn K (.ref C) "__class__") (some (some (.builtin "object.__class__"))) && (eqO (PySem.W.specialIn K (.builtin "object.__class__") "__get__") (some (some (.builtin "getset_descriptor.__get__"))) &&
  (decide (PySem.W.takesIn K (.builtin "object.__class__") = some true) && decide (PySem.W.mroIn K C (.type "object") = some true)))) &&
  ((["list", "tuple", "str", "int", "bool", "NoneType", "dict"].all fun T => decide (PySem.W.kitOne K (.type T) (.ref C) = some false) && PySem.W.notFirst K C (.type T)) &&
  (["list", "tuple", "str", "int", "bool"].all fun T => decide (PySem.W.kitOne K (.ref C) (.type T) = some false)))
theorem ownB_ok {K : PySem.W.Frag} {C : Addr} (h : ownB K C = true) : QO.OwnC K C := by
  obtain ⟨h1, h2⟩ := ba h
  obtain ⟨a1, h1⟩ := ba h1
  obtain ⟨a2, h1⟩ := ba h1
  obtain ⟨a3, a4⟩ := ba h1
  obtain ⟨h3, h4⟩ := ba h2
  have k1 := fun T (m : T ∈ ["list", "tuple", "str", "int", "bool", "NoneType", "dict"]) => ba (List.all_eq_true.mp h3 T m)
  have k2 := fun T (m : T ∈ ["list", "tuple", "str", "int", "bool"]) => of_decide_eq_true (List.all_eq_true.mp h4 T m)
  have k3 := fun T (m : T ∈ ["list", "tuple", "str", "int", "bool", "NoneType", "dict"]) => of_decide_eq_true (k1 T m).1
  have k4 := fun T (m : T ∈ ["list", "tuple", "str", "int", "bool", "NoneType", "dict"]) => (k1 T m).2
  exact ⟨eqO_ok a1, eqO_ok a2, of_decide_eq_true a3, of_decide_eq_true a4, k3 _ (by simp), k3 _ (by simp), k3 _ (by simp), k3 _ (by simp), k3 _ (by simp), k3 _ (by simp), k3 _ (by simp),
    k2 _ (by simp), k2 _ (by simp), k2 _ (by simp), k2 _ (by simp), k2 _ (by simp), k4 _ (by simp), k4 _ (by simp), k4 _ (by simp), k4 _ (by simp), k4 _ (by simp), k4 _ (by simp), k4 _ (by simp)⟩
theorem funD_fun {K : PySem.W.Frag} {x q : Str} {st : Stmt} {f : Addr} {fd : FuncData} (F : FunD K x q (defArgs st) (defBody st) (defScope st) [] [] f fd) : L2.Fun K x q st f fd := by
  obtain ⟨oc, od, dV, kV, doc, pm, an, cdv, ct, osl, h1, h2, h3, h4, h5⟩ := F.ex
  have e : dV = .none := by
    rcases h4 with ⟨_, h4⟩ | ⟨h4, _⟩
    · exact h4
    · exact absurd rfl h4
  subst e
  exact ⟨⟨oc, od, kV, doc, pm, an, cdv, ct, osl, h1, h2, h3⟩, F.kp⟩
theorem funC_of {K : PySem.W.Frag} {x q : Str} {st : Stmt} {p : Str × Option Str} {fd : FuncData} (F : FunD K x q (defArgs st) (defBody st) (defScope st) [] [] (fAd K p) fd) : QB.FunC K x q st (fAd K p) fd (codeOf K p) := by
  obtain ⟨oc, od, kV, doc, pm, an, cdv, ct, osl, h1, h2, h3⟩ := (funD_fun F).ex
  obtain ⟨c, rfl⟩ := codeIn_ref h3
  have e : codeOf K p = c := codeOf_eq h2 (by rw [h1])
  rw [e]
  exact ⟨⟨oc, od, kV, doc, pm, an, ct, osl, h1, h2, h3⟩⟩
end QE
end

section
set_option linter.all false
set_option autoImplicit false
/-! Qleast: what a form makes, and that its least form makes the same. -/
namespace QM
open PySem QB
/-- what is made from a standing on -/
def eff (tags : List Str) (F : Form) : Nat → Word → Word
  | k, [] => wordOf F k
  | k, t :: w => match wayAt tags F k t with
    | none => wordOf F k ++ t :: w
    | some b => eff tags F b w
theorem walkFrom_ge (tags : List Str) (F : Form) : ∀ (w : Word) (a k : Nat), k ≤ (walkFrom tags F a k w).2
  | [], _, _ => Nat.le_refl _
  | t :: w, a, k => by
    unfold walkFrom
    cases wayAt tags F a t with
    | none => exact Nat.le_refl _
    | some b => exact Nat.le_trans (Nat.le_succ k) (walkFrom_ge tags F w b (k + 1))
theorem walkFrom_eff (tags : List Str) (F : Form) : ∀ (w : Word) (a k : Nat), wordOf F (walkFrom tags F a k w).1 ++ w.drop ((walkFrom tags F a k w).2 - k) = eff tags F a w
  | [], _, _ => by simp [walkFrom, eff]
  | t :: w, a, k => by
    unfold walkFrom eff
    cases wayAt tags F a t with
    | none => simp
    | some b =>
      have h := walkFrom_ge tags F w b (k + 1)
      have ih := walkFrom_eff tags F w b (k + 1)
      show wordOf F (walkFrom tags F b (k + 1) w).1 ++ (t :: w).drop ((walkFrom tags F b (k + 1) w).2 - k) = eff tags F b w
      rw [← ih, show (walkFrom tags F b (k + 1) w).2 - k = ((walkFrom tags F b (k + 1) w).2 - (k + 1)) + 1 by omega, List.drop_succ_cons]
theorem make_eff (tags : List Str) (F : Form) (w : Word) : make tags F w = eff tags F 0 w := by
  have := walkFrom_eff tags F w 0 0
  rw [Nat.sub_zero] at this
  exact this

theorem wordOf_std {F : Form} {k : Nat} (h : k < F.length) : wordOf F k = (stdOf F k).1 := wordOf_of (stdOf_get h)
theorem wayAt_std {tags : List Str} {F : Form} {k : Nat} {t : Str} (h : k < F.length) : wayAt tags F k t = way tags (stdOf F k) t := wayAt_of (stdOf_get h)
theorem way_mem {tags : List Str} {s : Std} {t : Str} {n : Nat} (h : way tags s t = some n) : some n ∈ s.2 := by
  unfold way at h
  cases e : s.2[ixOf tags t]? with
  | none =>
    rw [e] at h
    cases h
  | some x =>
    rw [e] at h
    have h : x = some n := h
    rw [← h]
    exact List.mem_of_getElem? e
theorem Good.std_to {tags : List Str} {F : Form} (g : Good tags F) {k n : Nat} (hk : k < F.length) (h : some n ∈ (stdOf F k).2) : n < F.length := g.to _ (mem_of (stdOf_get hk)) n h
theorem Good.std_len {tags : List Str} {F : Form} (g : Good tags F) {k : Nat} (hk : k < F.length) : (stdOf F k).2.length = tags.length := g.len _ (mem_of (stdOf_get hk))

/-! ### without needless ways -/
theorem Pruned.std {tags : List Str} {F : Form} {st : Form × List Bool} (p : Pruned tags F st) {k : Nat} (hk : k < F.length) : (stdOf st.1 k).1 = (stdOf F k).1 ∧ (stdOf st.1 k).2.length = (stdOf F k).2.length ∧ ∀ n, some n ∈ (stdOf st.1 k).2 → some n ∈ (stdOf F k).2 :=
  p.word k _ (stdOf_get (by rw [p.len]; exact hk))
theorem way_prune {tags : List Str} {F : Form} {S : List Bool} {s : Std} {t : Str} (hl : s.2.length = tags.length) (ht : t ∈ tags) : way tags (pruneStd tags F S s) t = pruneWay F S s.1 t (way tags s t) := by
  have hlt : tags.idxOf t < tags.length := List.idxOf_lt_length_of_mem ht
  have e1 : tags[tags.idxOf t]? = some t := by rw [List.getElem?_eq_getElem hlt, List.getElem_idxOf]
  have e2 : s.2[tags.idxOf t]? = some (s.2[tags.idxOf t]'(by omega)) := List.getElem?_eq_getElem (by omega)
  have e3 := pruneWays_get (F := F) (S := S) e1 e2
  unfold way ixOf
  show ((pruneWays tags F S s)[tags.idxOf t]?).join = pruneWay F S s.1 t (s.2[tags.idxOf t]?).join
  rw [e3, e2]
  rfl
structure PInv (tags : List Str) (F : Form) (st : Form × List Bool) : Prop where
  p : Pruned tags F st
  same : ∀ (w : Word) (k : Nat), k < F.length → (∀ t ∈ w, t ∈ tags) → eff tags st.1 k w = eff tags F k w
  set : ∀ k, k < F.length → st.2.getD k false = true → ∀ w : Word, (∀ t ∈ w, t ∈ tags) → eff tags F k w = wordOf F k ++ w
theorem PInv.start {tags : List Str} {F : Form} : PInv tags F (F, List.replicate F.length false) :=
  ⟨Pruned.start tags F, fun _ _ _ _ => rfl, fun k hk h => by
    have h : (List.replicate F.length false).getD k false = true := h
    rw [List.getD_eq_getElem?_getD, List.getElem?_replicate, if_pos hk] at h
    cases h⟩
theorem eff_cons {tags : List Str} {F : Form} {k : Nat} {t : Str} {w : Word} : eff tags F k (t :: w) = match wayAt tags F k t with
    | none => wordOf F k ++ t :: w
    | some b => eff tags F b w := rfl
theorem PInv.step {tags : List Str} {F : Form} (g : Good tags F) {st : Form × List Bool} (i : PInv tags F st) {k : Nat} (hk : k < F.length) : PInv tags F (needStep tags F st k) := by
  have p' := i.p.step g hk
  have len' := p'.len
  have ss := i.p.std hk
  have gl := g.std_len hk
  have wd : ∀ j, j < F.length → wordOf (needStep tags F st k).1 j = wordOf F j := fun j hj => by
    rw [wordOf_std (by rw [len']; exact hj), wordOf_std hj]
    exact (p'.std hj).1
  have wj : ∀ j t, j < F.length → j ≠ k → wayAt tags (needStep tags F st k).1 j t = wayAt tags st.1 j t := fun j t hj hne => by
    unfold wayAt
    show ((st.1.set k _)[j]?).bind _ = _
    rw [List.getElem?_set_ne (Ne.symm hne)]
  have wk : ∀ t, t ∈ tags → wayAt tags (needStep tags F st k).1 k t = pruneWay F st.2 (stdOf F k).1 t (wayAt tags st.1 k t) := fun t ht => by
    have e : (needStep tags F st k).1[k]? = some (pruneStd tags F st.2 (stdOf st.1 k)) := by
      show (st.1.set k _)[k]? = _
      rw [List.getElem?_set_self (by rw [i.p.len]; exact hk)]
    rw [wayAt_of e, way_prune (by rw [ss.2.1, gl]) ht, ss.1, wayAt_std (by rw [i.p.len]; exact hk)]
  have same : ∀ (w : Word) (j : Nat), j < F.length → (∀ t ∈ w, t ∈ tags) → eff tags (needStep tags F st k).1 j w = eff tags F j w := by
    intro w
    induction w with
    | nil => exact fun j hj _ => wd j hj
    | cons t w ih =>
      intro j hj ht
      have ht1 := ht t List.mem_cons_self
      have htw : ∀ x ∈ w, x ∈ tags := fun x hx => ht x (List.mem_cons_of_mem _ hx)
      rw [← i.same (t :: w) j hj ht, eff_cons, eff_cons]
      have wds : wordOf st.1 j = wordOf F j := by
        rw [wordOf_std (by rw [i.p.len]; exact hj), wordOf_std hj]
        exact (i.p.std hj).1
      have lt : ∀ n, wayAt tags st.1 j t = some n → n < F.length := fun n hn => by
        rw [wayAt_std (by rw [i.p.len]; exact hj)] at hn
        exact g.std_to hj ((i.p.std hj).2.2 n (way_mem hn))
      by_cases hjk : j = k
      · subst hjk
        rw [wk t ht1]
        cases e : wayAt tags st.1 j t with
        | none => show wordOf _ j ++ t :: w = wordOf st.1 j ++ t :: w; rw [wd j hj, wds]
        | some n =>
          have hn := lt n e
          by_cases hd : isNeedless F st.2 (stdOf F j).1 t n = true
          · have e2 : pruneWay F st.2 (stdOf F j).1 t (some n) = none := if_pos hd
            rw [e2]
            show wordOf _ j ++ t :: w = eff tags st.1 n w
            unfold isNeedless at hd
            rw [Bool.and_eq_true] at hd
            rw [i.same w n hn htw, i.set n hn hd.1 w htw, wd j hj, wordOf_std hn, of_decide_eq_true hd.2, wordOf_std hj]
            simp
          · have e2 : pruneWay F st.2 (stdOf F j).1 t (some n) = some n := if_neg hd
            rw [e2]
            show eff tags _ n w = eff tags st.1 n w
            rw [ih n hn htw, i.same w n hn htw]
      · rw [wj j t hj hjk]
        cases e : wayAt tags st.1 j t with
        | none => show wordOf _ j ++ t :: w = wordOf st.1 j ++ t :: w; rw [wd j hj, wds]
        | some n =>
          have hn := lt n e
          show eff tags _ n w = eff tags st.1 n w
          rw [ih n hn htw, i.same w n hn htw]
  refine ⟨p', same, fun j hj hs w hw => ?_⟩
  have hs : (st.2.set k ((pruneWays tags F st.2 (stdOf st.1 k)).all Option.isNone)).getD j false = true := hs
  rw [List.getD_eq_getElem?_getD] at hs
  by_cases hjk : k = j
  · subst hjk
    rw [List.getElem?_set_self (by rw [i.p.lenS]; exact hk)] at hs
    have hs : (pruneWays tags F st.2 (stdOf st.1 k)).all Option.isNone = true := hs
    rw [← same w k hk hw]
    cases w with
    | nil =>
      show wordOf _ k = _
      rw [wd k hk, List.append_nil]
    | cons t w =>
      rw [eff_cons]
      cases e : wayAt tags (needStep tags F st k).1 k t with
      | none => show wordOf _ k ++ _ = _; rw [wd k hk]
      | some n =>
        have e1 : (needStep tags F st k).1[k]? = some (pruneStd tags F st.2 (stdOf st.1 k)) := by
          show (st.1.set k _)[k]? = _
          rw [List.getElem?_set_self (by rw [i.p.len]; exact hk)]
        rw [wayAt_of e1] at e
        have := List.all_eq_true.mp hs _ (way_mem e)
        cases this
  · rw [List.getElem?_set_ne hjk, ← List.getD_eq_getElem?_getD] at hs
    exact i.set j hj hs w hw
theorem PInv.fold {tags : List Str} {F : Form} (g : Good tags F) : ∀ (ks : List Nat) (st : Form × List Bool), PInv tags F st → (∀ k ∈ ks, k < F.length) → PInv tags F (ks.foldl (needStep tags F) st)
  | [], _, p, _ => p
  | k :: ks, st, p, h => PInv.fold g ks (needStep tags F st k) (p.step g (h k List.mem_cons_self)) fun j hj => h j (List.mem_cons_of_mem _ hj)
theorem needInv {tags : List Str} {F : Form} (g : Good tags F) : PInv tags F (needFold tags F (byLen F)) := PInv.fold g _ _ PInv.start fun k hk => byLen_lt hk
theorem needless_eff {tags : List Str} {F : Form} (g : Good tags F) {w : Word} {k : Nat} (hk : k < F.length) (hw : ∀ t ∈ w, t ∈ tags) : eff tags (needless tags F) k w = eff tags F k w := (needInv g).same w k hk hw
theorem needless_length {tags : List Str} {F : Form} (g : Good tags F) : (needless tags F).length = F.length := (needInv g).p.len
theorem needless_good {tags : List Str} {F : Form} (g : Good tags F) : Good tags (needless tags F) := by
  have p := (needInv g).p
  have hl := p.len
  have key : ∀ s ∈ needless tags F, ∃ k, k < F.length ∧ s = stdOf (needless tags F) k := fun s hs => by
    obtain ⟨k, hk, e⟩ := List.mem_iff_getElem.mp hs
    have e' : (needless tags F)[k]? = some s := by rw [List.getElem?_eq_getElem hk, e]
    rw [stdOf_get hk] at e'
    exact ⟨k, by rw [← needless_length g]; exact hk, (Option.some.inj e').symm⟩
  refine ⟨by rw [needless_length g]; exact g.pos, fun s hs => ?_, fun s hs n hn => ?_, by rw [needless_length g]; exact g.small⟩
  · obtain ⟨k, hk, rfl⟩ := key s hs
    exact (p.std hk).2.1.trans (g.std_len hk)
  · obtain ⟨k, hk, rfl⟩ := key s hs
    rw [needless_length g]
    exact g.std_to hk ((p.std hk).2.2 n hn)
end QM
end

section
set_option linter.all false
set_option autoImplicit false
/-! Qleast2: classes that stay, the order in which they are met. -/
namespace QM
open PySem QB
structure Stable (F : Form) (cs : List Nat) : Prop where
  len : cs.length = F.length
  word : ∀ i j, i < F.length → j < F.length → clsOf cs i = clsOf cs j → (stdOf F i).1 = (stdOf F j).1
  ways : ∀ i j, i < F.length → j < F.length → clsOf cs i = clsOf cs j → (stdOf F i).2.map (Option.map (clsOf cs)) = (stdOf F j).2.map (Option.map (clsOf cs))
theorem way_map (tags : List Str) (s : Std) (f : Option Nat → Option Nat) (hf : f none = none) (t : Str) : way tags (s.1, s.2.map f) t = f (way tags s t) := by
  unfold way
  show ((s.2.map f)[ixOf tags t]?).join = f ((s.2[ixOf tags t]?).join)
  rw [List.getElem?_map]
  cases s.2[ixOf tags t]? with
  | none => exact hf.symm
  | some x => rfl
theorem Stable.way {F : Form} {cs : List Nat} (S : Stable F cs) (tags : List Str) {i j : Nat} (hi : i < F.length) (hj : j < F.length) (h : clsOf cs i = clsOf cs j) (t : Str) : (way tags (stdOf F i) t).map (clsOf cs) = (way tags (stdOf F j) t).map (clsOf cs) := by
  have e := S.ways i j hi hj h
  have e1 := way_map tags (stdOf F i) (Option.map (clsOf cs)) rfl t
  have e2 := way_map tags (stdOf F j) (Option.map (clsOf cs)) rfl t
  rw [← e1, ← e2, e]
  rfl
theorem Stable.eff {tags : List Str} {F : Form} {cs : List Nat} (g : Good tags F) (S : Stable F cs) : ∀ (w : Word) (i j : Nat), i < F.length → j < F.length → clsOf cs i = clsOf cs j → eff tags F i w = eff tags F j w
  | [], i, j, hi, hj, h => by
    show wordOf F i = wordOf F j
    rw [wordOf_std hi, wordOf_std hj]
    exact S.word i j hi hj h
  | t :: w, i, j, hi, hj, h => by
    rw [eff_cons, eff_cons, wayAt_std hi, wayAt_std hj, wordOf_std hi, wordOf_std hj, S.word i j hi hj h]
    have e := S.way tags hi hj h t
    cases e1 : QM.way tags (stdOf F i) t with
    | none =>
      rw [e1] at e
      cases e2 : QM.way tags (stdOf F j) t with
      | none => rfl
      | some n =>
        rw [e2] at e
        cases e
    | some m =>
      rw [e1] at e
      cases e2 : QM.way tags (stdOf F j) t with
      | none =>
        rw [e2] at e
        cases e
      | some n =>
        rw [e2] at e
        have e : some (clsOf cs m) = some (clsOf cs n) := e
        exact Stable.eff g S w m n (g.std_to hi (way_mem e1)) (g.std_to hj (way_mem e2)) (Option.some.inj e)
theorem idxOf_pre' {l t : List Nat} {x : Nat} (h : x ∈ l) : (l ++ t).idxOf x = l.idxOf x := by
  rw [List.idxOf_append, if_pos h]
theorem newStd_pre {cs met t : List Nat} {s : Std} (h : ∀ n, some n ∈ s.2 → clsOf cs n ∈ met.map (clsOf cs)) : newStd cs (met ++ t) s = newStd cs met s := by
  unfold newStd
  congr 1
  refine List.map_congr_left fun w hw => ?_
  cases w with
  | none => rfl
  | some n =>
    show some ((((met ++ t).map (clsOf cs)).idxOf (clsOf cs n))) = some ((met.map (clsOf cs)).idxOf (clsOf cs n))
    rw [List.map_append, idxOf_pre' (h n hw)]
/-- what is told so far -/
structure OrdOf (F : Form) (cs met : List Nat) (told : Form) : Prop where
  m : Met F cs met
  zero : met[0]? = some 0
  le : told.length ≤ met.length
  at_ : ∀ i, i < told.length → told[i]? = some (newStd cs met (stdOf F (met.getD i 0)))
  in_ : ∀ i, i < told.length → ∀ n, some n ∈ (stdOf F (met.getD i 0)).2 → clsOf cs n ∈ met.map (clsOf cs)
theorem getD_pre {l t : List Nat} {i : Nat} (h : i < l.length) : (l ++ t).getD i 0 = l.getD i 0 := by
  rw [List.getD_eq_getElem?_getD, List.getD_eq_getElem?_getD, List.getElem?_append_left h]
theorem OrdOf.step {tags : List Str} {F : Form} {cs met : List Nat} {told : Form} (g : Good tags F) (o : OrdOf F cs met told) (h : told.length < met.length) :
    OrdOf F cs (visitAll cs met (stdOf F (met.getD told.length 0)).2) (told ++ [newStd cs (visitAll cs met (stdOf F (met.getD told.length 0)).2) (stdOf F (met.getD told.length 0))]) := by
  have hm : met.getD told.length 0 ∈ met := by
    rw [List.getD_eq_getElem?_getD, List.getElem?_eq_getElem h]
    exact List.getElem_mem h
  have hF := o.m.lt _ hm
  obtain ⟨t, e⟩ := visitAll_pre cs (stdOf F (met.getD told.length 0)).2 met
  have has := visitAll_has cs (stdOf F (met.getD told.length 0)).2 met
  have hmet := o.m.visitAll (ws := (stdOf F (met.getD told.length 0)).2) fun n hn => g.std_to hF hn
  generalize hM : visitAll cs met (stdOf F (met.getD told.length 0)).2 = M at e has hmet
  have gd : ∀ i, i < met.length → M.getD i 0 = met.getD i 0 := fun i hi => by rw [e]; exact getD_pre hi
  have in' : ∀ i, i < told.length + 1 → ∀ n, some n ∈ (stdOf F (M.getD i 0)).2 → clsOf cs n ∈ M.map (clsOf cs) := fun i hi n hn => by
    rw [gd i (by omega)] at hn
    by_cases hl : i < told.length
    · rw [e, List.map_append]
      exact List.mem_append_left _ (o.in_ i hl n hn)
    · have : i = told.length := by omega
      subst this
      exact has n hn
  refine ⟨hmet, ?_, ?_, fun i hi => ?_, fun i hi => ?_⟩
  · rw [e, List.getElem?_append_left (by omega)]
    exact o.zero
  · rw [List.length_append, e, List.length_append]
    show told.length + 1 ≤ _
    omega
  · rw [List.length_append] at hi
    have hi : i < told.length + 1 := hi
    rw [gd i (by omega)]
    by_cases hl : i < told.length
    · rw [List.getElem?_append_left hl, o.at_ i hl, e, newStd_pre (o.in_ i hl)]
    · have : i = told.length := by omega
      subst this
      rw [List.getElem?_append_right (Nat.le_refl _), Nat.sub_self]
      rfl
  · rw [List.length_append] at hi
    exact in' i hi
theorem orderLoop_ord {tags : List Str} {F : Form} {cs : List Nat} (g : Good tags F) : ∀ (f : Nat) (met : List Nat) (told : Form), OrdOf F cs met told → F.length + 1 ≤ told.length + f → ∃ met', OrdOf F cs met' (orderLoop F cs f met told) ∧ (orderLoop F cs f met told).length = met'.length
  | 0, met, told, o, h => by
    have := o.le
    have := o.m.len
    omega
  | f + 1, met, told, o, h => by
    unfold orderLoop
    by_cases hl : told.length < met.length
    · rw [if_pos hl]
      exact orderLoop_ord g f _ _ (o.step g hl) (by rw [List.length_append]; show _ ≤ told.length + 1 + f; omega)
    · rw [if_neg hl]
      exact ⟨met, o, by have := o.le; omega⟩
theorem inOrder_ord {tags : List Str} {F : Form} (g : Good tags F) (cs : List Nat) : ∃ met, OrdOf F cs met (inOrder F cs) ∧ (inOrder F cs).length = met.length := by
  refine orderLoop_ord g (F.length + 1) [0] [] ⟨⟨by simp, fun m hm => ?_⟩, rfl, by simp, fun i hi => absurd hi (Nat.not_lt_zero _), fun i hi => absurd hi (Nat.not_lt_zero _)⟩ (by simp)
  rw [List.mem_singleton.mp hm]
  exact g.pos
theorem OrdOf.std {F : Form} {cs met : List Nat} {R : Form} (o : OrdOf F cs met R) {i : Nat} (h : i < R.length) : stdOf R i = newStd cs met (stdOf F (met.getD i 0)) := by
  have e := o.at_ i h
  rw [stdOf_get h] at e
  exact Option.some.inj e
theorem OrdOf.lt {F : Form} {cs met : List Nat} {R : Form} (o : OrdOf F cs met R) {i : Nat} (h : i < R.length) : met.getD i 0 < F.length := by
  have h' : i < met.length := Nat.lt_of_lt_of_le h o.le
  refine o.m.lt _ ?_
  rw [List.getD_eq_getElem?_getD, List.getElem?_eq_getElem h']
  exact List.getElem_mem h'
theorem OrdOf.idx {F : Form} {cs met : List Nat} {R : Form} (o : OrdOf F cs met R) (hl : R.length = met.length) {n : Nat} (h : clsOf cs n ∈ met.map (clsOf cs)) : (met.map (clsOf cs)).idxOf (clsOf cs n) < R.length ∧ clsOf cs (met.getD ((met.map (clsOf cs)).idxOf (clsOf cs n)) 0) = clsOf cs n := by
  have hlt := List.idxOf_lt_length_of_mem h
  have hlt' : (met.map (clsOf cs)).idxOf (clsOf cs n) < met.length := by rwa [List.length_map] at hlt
  refine ⟨by omega, ?_⟩
  have e := List.getElem_idxOf hlt
  rw [List.getElem_map] at e
  rw [List.getD_eq_getElem?_getD, List.getElem?_eq_getElem hlt']
  exact e
theorem OrdOf.eff {tags : List Str} {F : Form} {cs met : List Nat} {R : Form} (g : Good tags F) (S : Stable F cs) (o : OrdOf F cs met R) (hl : R.length = met.length) : ∀ (w : Word) (i : Nat), i < R.length → eff tags R i w = eff tags F (met.getD i 0) w
  | [], i, hi => by
    show wordOf R i = wordOf F _
    rw [wordOf_std hi, wordOf_std (o.lt hi), o.std hi]
    rfl
  | t :: w, i, hi => by
    rw [eff_cons, eff_cons, wayAt_std hi, wayAt_std (o.lt hi), wordOf_std hi, wordOf_std (o.lt hi), o.std hi]
    have e := way_map tags (stdOf F (met.getD i 0)) (newWay cs met) rfl t
    rw [show newStd cs met (stdOf F (met.getD i 0)) = ((stdOf F (met.getD i 0)).1, (stdOf F (met.getD i 0)).2.map (newWay cs met)) from rfl, e]
    cases e1 : way tags (stdOf F (met.getD i 0)) t with
    | none => rfl
    | some n =>
      have hn := way_mem e1
      obtain ⟨h1, h2⟩ := o.idx hl (o.in_ i hi n hn)
      show QM.eff tags R ((met.map (clsOf cs)).idxOf (clsOf cs n)) w = QM.eff tags F n w
      rw [OrdOf.eff g S o hl w _ h1]
      exact S.eff g w _ _ (o.lt h1) (g.std_to (o.lt hi) hn) h2
theorem OrdOf.good {tags : List Str} {F : Form} {cs met : List Nat} {R : Form} (g : Good tags F) (o : OrdOf F cs met R) (hl : R.length = met.length) : Good tags R := by
  have key : ∀ s ∈ R, ∃ k, k < R.length ∧ s = stdOf R k := fun s hs => by
    obtain ⟨k, hk, e⟩ := List.mem_iff_getElem.mp hs
    have e' : R[k]? = some s := by rw [List.getElem?_eq_getElem hk, e]
    rw [stdOf_get hk] at e'
    exact ⟨k, hk, (Option.some.inj e').symm⟩
  have h0 : 0 < met.length := (List.getElem?_eq_some_iff.mp o.zero).1
  refine ⟨by omega, fun s hs => ?_, fun s hs n hn => ?_, by have := o.m.len; have := g.small; omega⟩
  · obtain ⟨k, hk, rfl⟩ := key s hs
    rw [o.std hk]
    show ((stdOf F _).2.map _).length = _
    rw [List.length_map]
    exact g.std_len (o.lt hk)
  · obtain ⟨k, hk, rfl⟩ := key s hs
    rw [o.std hk] at hn
    obtain ⟨x, hx, e⟩ := List.mem_map.mp (show some n ∈ (stdOf F (met.getD k 0)).2.map (newWay cs met) from hn)
    cases x with
    | none => cases e
    | some m =>
      have e : some ((met.map (clsOf cs)).idxOf (clsOf cs m)) = some n := e
      rw [← Option.some.inj e]
      exact (o.idx hl (o.in_ k hk m hx)).1
end QM
end

section
set_option linter.all false
set_option autoImplicit false
/-! Qleast3: the classes that are found stay. -/
namespace QM
open PySem QB L2
section
variable {α : Type} [DecidableEq α]
theorem numb_cls {ms : List α} {i : Nat} {x : α} (h : ms[i]? = some x) : clsOf (QD.numb ms) i = (QD.seenOf ms).idxOf x := by
  unfold clsOf QD.numb
  rw [List.getD_eq_getElem?_getD, List.getElem?_map, h]
  rfl
theorem idxOf_inj' {l : List α} {x y : α} (hx : x ∈ l) (hy : y ∈ l) (h : l.idxOf x = l.idxOf y) : x = y := by
  have h1 := List.getElem_idxOf (List.idxOf_lt_length_of_mem hx)
  have h2 := List.getElem_idxOf (List.idxOf_lt_length_of_mem hy)
  rw [← h1, ← h2]
  congr 1
theorem numb_inj {ms : List α} {i j : Nat} {x y : α} (hi : ms[i]? = some x) (hj : ms[j]? = some y) : clsOf (QD.numb ms) i = clsOf (QD.numb ms) j ↔ x = y := by
  rw [numb_cls hi, numb_cls hj]
  constructor
  · exact idxOf_inj' ((QD.mem_seenOf ms x).mpr (List.mem_of_getElem? hi)) ((QD.mem_seenOf ms y).mpr (List.mem_of_getElem? hj))
  · exact fun e => by rw [e]
theorem idxOf_nodup {l : List α} (nd : l.Nodup) {k : Nat} (h : k < l.length) : l.idxOf l[k] = k := by
  have hm : l[k] ∈ l := List.getElem_mem h
  have h1 := List.idxOf_lt_length_of_mem hm
  have h2 := List.getElem_idxOf h1
  exact (List.getElem_inj nd).mp h2
theorem maxOf_numb {ms : List α} (h : ms ≠ []) : maxOf (QD.numb ms) + 1 = (QD.seenOf ms).length := by
  have h0 : 0 < (QD.seenOf ms).length := by
    cases ms with
    | nil => exact absurd rfl h
    | cons x r => exact List.length_pos_of_mem ((QD.mem_seenOf (x :: r) x).mpr List.mem_cons_self)
  have hk : (QD.seenOf ms).length - 1 < (QD.seenOf ms).length := by omega
  have e : maxOf (QD.numb ms) = (QD.seenOf ms).length - 1 := by
    refine maxOf_eq ?_ fun x hx => by have := numb_lt hx; omega
    have hm : (QD.seenOf ms)[(QD.seenOf ms).length - 1] ∈ ms := (QD.mem_seenOf ms _).mp (List.getElem_mem hk)
    have := idxOf_nodup (QD.seenOf_nodup ms) hk
    exact List.mem_map.mpr ⟨_, hm, this⟩
  omega
end
theorem nodup_sub_len : ∀ (l m : List Nat), l.Nodup → (∀ x ∈ l, x ∈ m) → l.length ≤ m.length
  | [], _, _, _ => Nat.zero_le _
  | x :: l, m, nd, h => by
    rw [List.nodup_cons] at nd
    have hx := h x List.mem_cons_self
    have h1 := nodup_sub_len l (m.erase x) nd.2 fun y hy => by
      have hy' := h y (List.mem_cons_of_mem _ hy)
      exact (List.mem_erase_of_ne (fun e => nd.1 (by rw [← e]; exact hy))).mpr hy'
    have h2 := List.length_erase_of_mem hx
    have h3 := List.length_pos_of_mem hx
    rw [List.length_cons]
    omega
theorem inj_of_cover {L : List Nat} {k : Nat} (hl : L.length ≤ k) (hc : ∀ x, x < k → x ∈ L) {i j x : Nat} (hi : L[i]? = some x) (hj : L[j]? = some x) : i = j := by
  rcases Nat.lt_trichotomy i j with h | h | h
  · exfalso
    have key : ∀ (i j : Nat), i ≠ j → L[i]? = some x → L[j]? = some x → False := fun i j hne hi hj => by
      have hjl : j < L.length := (List.getElem?_eq_some_iff.mp hj).1
      have h1 := nodup_sub_len (List.range k) (L.eraseIdx j) List.nodup_range fun y hy => by
        have hy' := hc y (List.mem_range.mp hy)
        obtain ⟨p, hp, e⟩ := List.mem_iff_getElem.mp hy'
        have e' : L[p]? = some y := by rw [List.getElem?_eq_getElem hp, e]
        rw [List.mem_eraseIdx_iff_getElem?]
        by_cases hpj : p = j
        · subst hpj
          rw [hj] at e'
          exact ⟨i, hne, by rw [hi]; exact e'⟩
        · exact ⟨p, hpj, e'⟩
      rw [List.length_range, List.length_eraseIdx, if_pos hjl] at h1
      omega
    exact key i j (by omega) hi hj
  · exact h
  · exfalso
    have key : ∀ (i j : Nat), i ≠ j → L[i]? = some x → L[j]? = some x → False := fun i j hne hi hj => by
      have hjl : j < L.length := (List.getElem?_eq_some_iff.mp hj).1
      have h1 := nodup_sub_len (List.range k) (L.eraseIdx j) List.nodup_range fun y hy => by
        have hy' := hc y (List.mem_range.mp hy)
        obtain ⟨p, hp, e⟩ := List.mem_iff_getElem.mp hy'
        have e' : L[p]? = some y := by rw [List.getElem?_eq_getElem hp, e]
        rw [List.mem_eraseIdx_iff_getElem?]
        by_cases hpj : p = j
        · subst hpj
          rw [hj] at e'
          exact ⟨i, hne, by rw [hi]; exact e'⟩
        · exact ⟨p, hpj, e'⟩
      rw [List.length_range, List.length_eraseIdx, if_pos hjl] at h1
      omega
    exact key i j (by omega) hi hj
/-- the class in a key -/
def keyCls : NestedKey → Nat
  | .tup (.num i :: _) => i.toNat
  | _ => 0
theorem partKeys_get {cs : List Nat} {F : Form} (hl : cs.length = F.length) {i : Nat} (hi : i < F.length) : (partKeys cs F)[i]? = some (partKey cs (clsOf cs i, stdOf F i)) := by
  have e1 : cs[i]? = some (clsOf cs i) := by
    unfold clsOf
    rw [List.getD_eq_getElem?_getD, List.getElem?_eq_getElem (by omega)]
    rfl
  have ez : (cs.zip F)[i]? = some (clsOf cs i, stdOf F i) := by
    rw [List.getElem?_zip_eq_some]
    exact ⟨e1, stdOf_get hi⟩
  unfold partKeys
  rw [List.getElem?_map, ez]
  rfl
theorem partKey_eq {cs : List Nat} {p q : Nat × Std} (h : partKey cs p = partKey cs q) : p.1 = q.1 ∧ p.2.2.map (wayNum cs) = q.2.2.map (wayNum cs) := by
  unfold partKey at h
  injection h with h
  injection h with h1 h2
  injection h1 with h1
  injection h2 with h2 _
  injection h2 with h2
  exact ⟨by omega, h2⟩
theorem wayNum_eq {cs : List Nat} {x y : Option Nat} (h : wayNum cs x = wayNum cs y) : x.map (clsOf cs) = y.map (clsOf cs) := by
  cases x with
  | none =>
    cases y with
    | none => rfl
    | some n =>
      have h : NestedKey.num (-1) = .num ((cs.getD n 0 : Nat) : Int) := h
      injection h with h
      omega
  | some m =>
    cases y with
    | none =>
      have h : NestedKey.num ((cs.getD m 0 : Nat) : Int) = .num (-1) := h
      injection h with h
      omega
    | some n =>
      have h : NestedKey.num ((cs.getD m 0 : Nat) : Int) = .num ((cs.getD n 0 : Nat) : Int) := h
      injection h with h
      show some (cs.getD m 0) = some (cs.getD n 0)
      congr 1
      omega
theorem wayNum_of {cs : List Nat} {x y : Option Nat} (h : x.map (clsOf cs) = y.map (clsOf cs)) : wayNum cs x = wayNum cs y := by
  cases x with
  | none =>
    cases y with
    | none => rfl
    | some n => cases h
  | some m =>
    cases y with
    | none => cases h
    | some n =>
      have h : some (cs.getD m 0) = some (cs.getD n 0) := h
      show NestedKey.num ((cs.getD m 0 : Nat) : Int) = .num ((cs.getD n 0 : Nat) : Int)
      rw [Option.some.inj h]
theorem part_fine {cs : List Nat} {F : Form} (hl : cs.length = F.length) {i j : Nat} (hi : i < F.length) (hj : j < F.length) (h : clsOf (part cs F) i = clsOf (part cs F) j) : clsOf cs i = clsOf cs j ∧ (stdOf F i).2.map (Option.map (clsOf cs)) = (stdOf F j).2.map (Option.map (clsOf cs)) := by
  obtain ⟨h1, h2⟩ := partKey_eq ((numb_inj (partKeys_get hl hi) (partKeys_get hl hj)).mp h)
  refine ⟨h1, ?_⟩
  have h2 : (stdOf F i).2.map (wayNum cs) = (stdOf F j).2.map (wayNum cs) := h2
  generalize (stdOf F i).2 = a at h2
  generalize (stdOf F j).2 = b at h2
  induction a generalizing b with
  | nil =>
    cases b with
    | nil => rfl
    | cons y b => cases h2
  | cons x a ih =>
    cases b with
    | nil => cases h2
    | cons y b =>
      rw [List.map_cons, List.map_cons] at h2
      injection h2 with h3 h4
      rw [List.map_cons, List.map_cons, wayNum_eq h3, ih b h4]
theorem part_coarse {α : Type} [DecidableEq α] {ms : List α} {F : Form} (hl : ms.length = F.length) (hc : (QD.seenOf (partKeys (QD.numb ms) F)).length ≤ (QD.seenOf ms).length) {i j : Nat} (hi : i < F.length) (hj : j < F.length) (h : clsOf (QD.numb ms) i = clsOf (QD.numb ms) j) :
    clsOf (part (QD.numb ms) F) i = clsOf (part (QD.numb ms) F) j := by
  have hl' : (QD.numb ms).length = F.length := by rw [QD.numb_len, hl]
  have gi := partKeys_get hl' hi
  have gj := partKeys_get hl' hj
  refine (numb_inj gi gj).mpr ?_
  have mi := (QD.mem_seenOf _ _).mpr (List.mem_of_getElem? gi)
  have mj := (QD.mem_seenOf _ _).mpr (List.mem_of_getElem? gj)
  obtain ⟨a, ha, ea⟩ := List.mem_iff_getElem.mp mi
  obtain ⟨b, hb, eb⟩ := List.mem_iff_getElem.mp mj
  have kc : ∀ p : Nat × Std, keyCls (partKey (QD.numb ms) p) = p.1 := fun p => by
    show ((p.1 : Int)).toNat = p.1
    omega
  have hcov : ∀ x, x < (QD.seenOf ms).length → x ∈ (QD.seenOf (partKeys (QD.numb ms) F)).map keyCls := fun x hx => by
    have hm : (QD.seenOf ms)[x] ∈ ms := (QD.mem_seenOf ms _).mp (List.getElem_mem hx)
    obtain ⟨p, hp, ep⟩ := List.mem_iff_getElem.mp hm
    have ep' : ms[p]? = some (QD.seenOf ms)[x] := by rw [List.getElem?_eq_getElem hp, ep]
    have e1 := numb_cls ep'
    rw [idxOf_nodup (QD.seenOf_nodup ms) hx] at e1
    have gp := partKeys_get hl' (show p < F.length by omega)
    refine List.mem_map.mpr ⟨_, (QD.mem_seenOf _ _).mpr (List.mem_of_getElem? gp), ?_⟩
    rw [kc]
    exact e1
  have e : a = b := inj_of_cover (L := (QD.seenOf (partKeys (QD.numb ms) F)).map keyCls) (k := (QD.seenOf ms).length) (by rw [List.length_map]; exact hc) hcov (x := clsOf (QD.numb ms) i)
    (by rw [List.getElem?_map, List.getElem?_eq_getElem ha, ea]; show some _ = _; rw [kc]) (by rw [List.getElem?_map, List.getElem?_eq_getElem hb, eb]; show some _ = _; rw [kc]; exact congrArg some h.symm)
  subst e
  rw [← ea, ← eb]
theorem wordKey_eq {s s' : Std} (h : wordKey s = wordKey s') : s.1 = s'.1 := by
  unfold wordKey at h
  injection h with h
  exact List.map_inj_right (fun x y e => by injection e) |>.mp h
theorem map_up {a b : Ways} {f g : Option Nat → Option Nat} {P : Option Nat → Prop} (ha : ∀ x ∈ a, P x) (hb : ∀ x ∈ b, P x) (up : ∀ x y, P x → P y → f x = f y → g x = g y) (h : a.map f = b.map f) : a.map g = b.map g := by
  induction a generalizing b with
  | nil =>
    cases b with
    | nil => rfl
    | cons y b => cases h
  | cons x a ih =>
    cases b with
    | nil => cases h
    | cons y b =>
      rw [List.map_cons, List.map_cons] at h
      injection h with h3 h4
      rw [List.map_cons, List.map_cons, up x y (ha x List.mem_cons_self) (hb y List.mem_cons_self) h3, ih (fun z hz => ha z (List.mem_cons_of_mem _ hz)) (fun z hz => hb z (List.mem_cons_of_mem _ hz)) h4]
structure AInv (F : Form) (many : Nat) (cs : List Nat) : Prop where
  num : ∃ ms : List NestedKey, cs = QD.numb ms ∧ ms.length = F.length
  word : ∀ i j, i < F.length → j < F.length → clsOf cs i = clsOf cs j → (stdOf F i).1 = (stdOf F j).1
  le : many ≤ F.length
  prev : many = 0 ∨ ∃ ms' : List NestedKey, ms'.length = F.length ∧ cs = part (QD.numb ms') F ∧ (QD.seenOf ms').length = many
theorem alikeLoop_stable {tags : List Str} {F : Form} (g : Good tags F) (hF : 0 < F.length) : ∀ (f many : Nat) (cs : List Nat), AInv F many cs → F.length + 1 ≤ f + many → Stable F (alikeLoop F f many cs)
  | 0, many, cs, a, h => by
    have := a.le
    omega
  | f + 1, many, cs, a, h => by
    obtain ⟨ms, hcs, hml⟩ := a.num
    have hne : ms ≠ [] := fun e => by
      rw [e] at hml
      have : (0 : Nat) = F.length := hml
      omega
    have hmax := maxOf_numb hne
    have hlen : cs.length = F.length := by rw [hcs, QD.numb_len, hml]
    unfold alikeLoop
    by_cases hm : many ≤ maxOf cs
    · rw [if_pos hm]
      refine alikeLoop_stable g hF f (maxOf cs + 1) (part cs F) ⟨⟨partKeys cs F, rfl, partKeys_len hlen⟩, fun i j hi hj e => ?_, ?_, .inr ⟨ms, hml, by rw [hcs], by rw [hcs]; exact hmax.symm⟩⟩ (by omega)
      · exact a.word i j hi hj (part_fine hlen hi hj e).1
      · rw [hcs, hmax]
        have := QD.seenOf_len ms
        omega
    · rw [if_neg hm]
      rcases a.prev with h0 | ⟨ms', hl', hp, hc⟩
      · omega
      · have hl2 : (QD.numb ms').length = F.length := by rw [QD.numb_len, hl']
        have hcount : (QD.seenOf (partKeys (QD.numb ms') F)).length ≤ (QD.seenOf ms').length := by
          have hpl : partKeys (QD.numb ms') F ≠ [] := fun e => by
            have := partKeys_len hl2
            rw [e] at this
            have : (0 : Nat) = F.length := this
            omega
          have := maxOf_numb hpl
          have e : maxOf cs = maxOf (QD.numb (partKeys (QD.numb ms') F)) := by rw [hp]; rfl
          omega
        refine ⟨hlen, a.word, fun i j hi hj e => ?_⟩
        rw [hp] at e ⊢
        obtain ⟨h1, h2⟩ := part_fine hl2 hi hj e
        have up : ∀ x y : Option Nat, (∀ n, x = some n → n < F.length) → (∀ n, y = some n → n < F.length) → x.map (clsOf (QD.numb ms')) = y.map (clsOf (QD.numb ms')) → x.map (clsOf (part (QD.numb ms') F)) = y.map (clsOf (part (QD.numb ms') F)) := fun x y hx hy e => by
          cases x with
          | none =>
            cases y with
            | none => rfl
            | some n => cases e
          | some m =>
            cases y with
            | none => cases e
            | some n =>
              have e : some (clsOf (QD.numb ms') m) = some (clsOf (QD.numb ms') n) := e
              show some _ = some _
              rw [part_coarse hl' hcount (hx m rfl) (hy n rfl) (Option.some.inj e)]
        exact map_up (P := fun x => ∀ n, x = some n → n < F.length) (fun x hx n e => g.std_to hi (e ▸ hx)) (fun x hx n e => g.std_to hj (e ▸ hx)) up h2
theorem alike_stable {tags : List Str} {F : Form} (g : Good tags F) : Stable F (alike F) := by
  refine alikeLoop_stable g g.pos (F.length + 1) 0 _ ⟨⟨wordKeys F, rfl, by simp [wordKeys]⟩, fun i j hi hj e => ?_, Nat.zero_le _, .inl rfl⟩ (Nat.le_refl _)
  have gi : (wordKeys F)[i]? = some (wordKey (stdOf F i)) := by
    unfold wordKeys
    rw [List.getElem?_map, stdOf_get hi]
    rfl
  have gj : (wordKeys F)[j]? = some (wordKey (stdOf F j)) := by
    unfold wordKeys
    rw [List.getElem?_map, stdOf_get hj]
    rfl
  exact wordKey_eq ((numb_inj gi gj).mp e)
/-- the least form makes what the form makes -/
theorem least_ord {tags : List Str} {F : Form} (g : Good tags F) : ∃ met, OrdOf (needless tags F) (alike (needless tags F)) met (least tags F) ∧ (least tags F).length = met.length := inOrder_ord (needless_good g) _
theorem least_eff {tags : List Str} {F : Form} (g : Good tags F) {w : Word} (hw : ∀ t ∈ w, t ∈ tags) : eff tags (least tags F) 0 w = eff tags F 0 w := by
  obtain ⟨met, o, hl⟩ := least_ord g
  have gN := needless_good g
  have h0 := o.zero
  have h1 : 0 < met.length := (List.getElem?_eq_some_iff.mp h0).1
  rw [o.eff gN (alike_stable gN) hl w 0 (by omega)]
  have e : met.getD 0 0 = 0 := by rw [List.getD_eq_getElem?_getD, h0]; rfl
  rw [e]
  exact needless_eff g g.pos hw
theorem least_make {tags : List Str} {F : Form} (g : Good tags F) {w : Word} (hw : ∀ t ∈ w, t ∈ tags) : make tags (least tags F) w = make tags F w := by
  rw [make_eff, make_eff]
  exact least_eff g hw
theorem least_good {tags : List Str} {F : Form} (g : Good tags F) : Good tags (least tags F) := by
  obtain ⟨met, o, hl⟩ := least_ord g
  exact o.good (needless_good g) hl
theorem least_len {tags : List Str} {F : Form} (g : Good tags F) : (least tags F).length ≤ F.length := by
  obtain ⟨met, o, hl⟩ := least_ord g
  have := o.m.len
  rw [needless_length g] at this
  omega
theorem least_word {tags : List Str} {F : Form} (g : Good tags F) {s : Std} (h : s ∈ least tags F) : ∃ s' ∈ F, s.1 = s'.1 := by
  obtain ⟨met, o, hl⟩ := least_ord g
  obtain ⟨k, hk, e⟩ := List.mem_iff_getElem.mp h
  have e' : (least tags F)[k]? = some s := by rw [List.getElem?_eq_getElem hk, e]
  rw [stdOf_get hk, o.std hk] at e'
  have hm := o.lt hk
  rw [needless_length g] at hm
  refine ⟨stdOf F (met.getD k 0), mem_of (stdOf_get hm), ?_⟩
  rw [← Option.some.inj e']
  exact ((needInv g).p.std hm).1
end QM
end

section
set_option linter.all false
set_option autoImplicit false
/-! Qleast4: a least form has no needless way. -/
namespace QM
open PySem QB L2
def allNone (s : Std) : Bool := s.2.all Option.isNone
structure NInv (tags : List Str) (F : Form) (P : List Nat) (st : Form × List Bool) : Prop where
  p : Pruned tags F st
  s : ∀ k ∈ P, st.2.getD k false = allNone (stdOf st.1 k)
  d : ∀ k ∈ P, ∀ t ∈ tags, ∀ m, way tags (stdOf st.1 k) t = some m → (stdOf F m).1 = (stdOf F k).1 ++ [t] → m ∈ P ∧ allNone (stdOf st.1 m) = false
theorem stdOf_set {F : Form} {k j : Nat} {s : Std} (h : k < F.length) : stdOf (F.set k s) j = if k = j then s else stdOf F j := by
  unfold stdOf
  rw [List.getD_eq_getElem?_getD, List.getD_eq_getElem?_getD]
  by_cases e : k = j
  · subst e
    rw [List.getElem?_set_self h, if_pos rfl]
    rfl
  · rw [List.getElem?_set_ne e, if_neg e]
theorem NInv.step {tags : List Str} {F : Form} {P : List Nat} {st : Form × List Bool} (g : Good tags F) (i : NInv tags F P st) {k : Nat} (hk : k < F.length) (hP : k ∉ P) (long : ∀ m, m < F.length → (stdOf F k).1.length < (stdOf F m).1.length → m ∈ P) : NInv tags F (P ++ [k]) (needStep tags F st k) := by
  have p' := i.p.step g hk
  have ss := i.p.std hk
  have gl := g.std_len hk
  have e1 : ∀ j, stdOf (needStep tags F st k).1 j = if k = j then pruneStd tags F st.2 (stdOf st.1 k) else stdOf st.1 j := fun j => stdOf_set (by rw [i.p.len]; exact hk)
  have e2 : ∀ j, (needStep tags F st k).2.getD j false = if k = j then allNone (pruneStd tags F st.2 (stdOf st.1 k)) else st.2.getD j false := fun j => by
    show (st.2.set k _).getD j false = _
    rw [List.getD_eq_getElem?_getD, List.getD_eq_getElem?_getD]
    by_cases e : k = j
    · subst e
      rw [List.getElem?_set_self (by rw [i.p.lenS]; exact hk), if_pos rfl]
      rfl
    · rw [List.getElem?_set_ne e, if_neg e]
  refine ⟨p', fun j hj => ?_, fun j hj t ht m hm hw => ?_⟩
  · rw [e1, e2]
    by_cases e : k = j
    · rw [if_pos e, if_pos e]
    · rw [if_neg e, if_neg e]
      rcases List.mem_append.mp hj with h | h
      · exact i.s j h
      · exact absurd (List.mem_singleton.mp h).symm e
  · rw [e1] at hm ⊢
    by_cases e : k = j
    · subst e
      rw [if_pos rfl, way_prune (by rw [ss.2.1, gl]) ht, ss.1] at hm
      have hw0 := pruneWay_some hm
      have hmF : m < F.length := g.std_to hk (ss.2.2 m (way_mem hw0))
      have hmP := long m hmF (by rw [hw, List.length_append]; show _ < _ + 1; omega)
      have hne : k ≠ m := fun e => hP (e ▸ hmP)
      rw [if_neg hne]
      refine ⟨List.mem_append_left _ hmP, ?_⟩
      rw [← i.s m hmP]
      rw [hw0] at hm
      have hm : (if isNeedless F st.2 (stdOf F k).1 t m = true then none else some m) = some m := hm
      cases hS : st.2.getD m false with
      | false => rfl
      | true =>
        have : isNeedless F st.2 (stdOf F k).1 t m = true := by
          unfold isNeedless
          rw [hS, decide_eq_true hw]
          rfl
        rw [if_pos this] at hm
        cases hm
    · rw [if_neg e] at hm
      rcases List.mem_append.mp hj with h | h
      · obtain ⟨h1, h2⟩ := i.d j h t ht m hm hw
        have hne : k ≠ m := fun e => hP (e ▸ h1)
        rw [if_neg hne]
        exact ⟨List.mem_append_left _ h1, h2⟩
      · exact absurd (List.mem_singleton.mp h).symm e
theorem NInv.fold {tags : List Str} {F : Form} (g : Good tags F) : ∀ (ks P : List Nat) (st : Form × List Bool), NInv tags F P st → (P ++ ks).Nodup → (∀ k, k < F.length ↔ k ∈ P ++ ks) → (ks.Pairwise fun i j => keyOf F i ≤ keyOf F j) → NInv tags F (P ++ ks) (ks.foldl (needStep tags F) st)
  | [], P, st, i, _, _, _ => by rw [List.append_nil]; exact i
  | k :: ks, P, st, i, nd, mem, pw => by
    rw [List.pairwise_cons] at pw
    have hk : k < F.length := (mem k).mpr (List.mem_append_right _ List.mem_cons_self)
    have nd' := List.nodup_append.mp nd
    have hP : k ∉ P := fun h => nd'.2.2 k h k List.mem_cons_self rfl
    have i' := i.step g hk hP fun m hm hl => by
      rcases List.mem_append.mp ((mem m).mp hm) with h | h
      · exact h
      · rcases List.mem_cons.mp h with h | h
        · rw [h] at hl
          omega
        · have := pw.1 m h
          unfold keyOf at this
          omega
    have e : P ++ k :: ks = (P ++ [k]) ++ ks := by simp
    rw [e] at nd mem ⊢
    exact NInv.fold g ks (P ++ [k]) (needStep tags F st k) i' nd mem pw.2
theorem needless_none {tags : List Str} {F : Form} (g : Good tags F) {k m : Nat} {t : Str} (hk : k < F.length) (ht : t ∈ tags) (h : way tags (stdOf (needless tags F) k) t = some m) (hw : (stdOf F m).1 = (stdOf F k).1 ++ [t]) : allNone (stdOf (needless tags F) m) = false := by
  have pm : (byLen F).Perm (List.range F.length) := List.mergeSort_perm _ _
  have pw : (byLen F).Pairwise fun i j => keyOf F i ≤ keyOf F j := by
    have := List.pairwise_mergeSort (le := fun i j => decide (keyOf F i ≤ keyOf F j)) (fun a b c h1 h2 => decide_eq_true (Int.le_trans (of_decide_eq_true h1) (of_decide_eq_true h2)))
      (fun a b => by
        rw [Bool.or_eq_true]
        rcases Int.le_total (keyOf F a) (keyOf F b) with h | h
        · exact .inl (decide_eq_true h)
        · exact .inr (decide_eq_true h)) (List.range F.length)
    exact this.imp fun h => of_decide_eq_true h
  have i := NInv.fold g (byLen F) [] (F, List.replicate F.length false) ⟨Pruned.start tags F, (fun _ h => nomatch h), fun _ h => nomatch h⟩ (pm.nodup_iff.mpr List.nodup_range) (fun k => by
    rw [List.nil_append, pm.mem_iff, List.mem_range]) pw
  rw [List.nil_append] at i
  have hkm : k ∈ byLen F := by rw [pm.mem_iff, List.mem_range]; exact hk
  exact (i.d k hkm t ht m h hw).2
theorem allNone_of {a b : Std} {f : Nat → Nat} (h : a.2.map (Option.map f) = b.2.map (Option.map f)) : allNone a = allNone b := by
  have key : ∀ s : Std, allNone s = (s.2.map (Option.map f)).all Option.isNone := fun s => by
    unfold allNone
    rw [List.all_map]
    congr 1
    funext x
    cases x <;> rfl
  rw [key, key, h]
theorem least_none {tags : List Str} {F : Form} (g : Good tags F) {i j : Nat} {t : Str} (hi : i < (least tags F).length) (ht : t ∈ tags) (h : way tags (stdOf (least tags F) i) t = some j) (hw : (stdOf (least tags F) j).1 = (stdOf (least tags F) i).1 ++ [t]) : allNone (stdOf (least tags F) j) = false := by
  obtain ⟨met, o, hl⟩ := least_ord g
  have gN := needless_good g
  have S := alike_stable gN
  have nl := needless_length g
  have p := (needInv g).p
  rw [o.std hi] at h hw
  have e := way_map tags (stdOf (needless tags F) (met.getD i 0)) (newWay (alike (needless tags F)) met) rfl t
  have h : way tags ((stdOf (needless tags F) (met.getD i 0)).1, (stdOf (needless tags F) (met.getD i 0)).2.map (newWay (alike (needless tags F)) met)) t = some j := h
  rw [e] at h
  cases e1 : way tags (stdOf (needless tags F) (met.getD i 0)) t with
  | none =>
    rw [e1] at h
    cases h
  | some m =>
    rw [e1] at h
    have h : some ((met.map (clsOf (alike (needless tags F)))).idxOf (clsOf (alike (needless tags F)) m)) = some j := h
    have hj := (Option.some.inj h).symm
    have hm := way_mem e1
    obtain ⟨h1, h2⟩ := o.idx hl (o.in_ i hi m hm)
    rw [← hj] at h1 h2
    have hmN := gN.std_to (o.lt hi) hm
    have hjN := o.lt h1
    rw [o.std h1] at hw ⊢
    have hw : (stdOf (needless tags F) (met.getD j 0)).1 = (stdOf (needless tags F) (met.getD i 0)).1 ++ [t] := hw
    rw [S.word _ _ hjN hmN h2] at hw
    have e3 : allNone (newStd (alike (needless tags F)) met (stdOf (needless tags F) (met.getD j 0))) = allNone (stdOf (needless tags F) (met.getD j 0)) := by
      unfold allNone newStd
      rw [List.all_map]
      congr 1
      funext x
      cases x <;> rfl
    rw [e3, allNone_of (S.ways _ _ hjN hmN h2)]
    have hiF : met.getD i 0 < F.length := by rw [← nl]; exact o.lt hi
    refine needless_none g hiF ht e1 ?_
    have w1 := (p.std (show m < F.length by omega)).1
    have w2 := (p.std hiF).1
    rw [← w1, ← w2]
    exact hw
theorem needless_same {tags : List Str} {R : Form} (g : Good tags R) (nd : tags.Nodup) (no : ∀ i j t, i < R.length → t ∈ tags → way tags (stdOf R i) t = some j → (stdOf R j).1 = (stdOf R i).1 ++ [t] → allNone (stdOf R j) = false) : needless tags R = R := by
  have all : ∀ (ks : List Nat) (st : Form × List Bool), st.1 = R → st.2.length = R.length → (∀ k, k < R.length → st.2.getD k false = true → allNone (stdOf R k) = true) → (∀ k ∈ ks, k < R.length) → (ks.foldl (needStep tags R) st).1 = R := by
    intro ks
    induction ks with
    | nil => exact fun st h _ _ _ => h
    | cons k ks ih =>
      intro st h1 hl h2 hk
      have hkR := hk k List.mem_cons_self
      have ps : pruneStd tags R st.2 (stdOf R k) = stdOf R k := by
        have e : pruneWays tags R st.2 (stdOf R k) = (stdOf R k).2 := by
          refine List.ext_getElem? fun q => ?_
          by_cases hq : q < tags.length
          · have e1 : tags[q]? = some tags[q] := List.getElem?_eq_getElem hq
            have hq2 : q < (stdOf R k).2.length := by rw [g.std_len hkR]; exact hq
            have e2 : (stdOf R k).2[q]? = some (stdOf R k).2[q] := List.getElem?_eq_getElem hq2
            rw [pruneWays_get e1 e2, e2]
            generalize (stdOf R k).2[q] = x at e2
            cases x with
            | none => rfl
            | some n =>
              have hn : n < R.length := g.std_to hkR (List.mem_of_getElem? e2)
              have hwy : way tags (stdOf R k) tags[q] = some n := by
                unfold way ixOf
                rw [idxOf_nodup nd hq, e2]
                rfl
              show some (if isNeedless R st.2 (stdOf R k).1 tags[q] n = true then none else some n) = some (some n)
              have hno : ¬ isNeedless R st.2 (stdOf R k).1 tags[q] n = true := fun hd => by
                unfold isNeedless at hd
                rw [Bool.and_eq_true] at hd
                have a1 := h2 n hn hd.1
                have a2 := no k n _ hkR (List.getElem_mem hq) hwy (of_decide_eq_true hd.2)
                rw [a1] at a2
                cases a2
              rw [if_neg hno]
          · rw [List.getElem?_eq_none (by rw [pruneWays_len (g.std_len hkR)]; omega), List.getElem?_eq_none (by rw [g.std_len hkR]; omega)]
        unfold pruneStd
        rw [e]
      refine ih (needStep tags R st k) ?_ (by show (st.2.set k _).length = _; rw [List.length_set, hl]) (fun j hj hs => ?_) fun j hj => hk j (List.mem_cons_of_mem _ hj)
      · show st.1.set k (pruneStd tags R st.2 (stdOf st.1 k)) = R
        rw [h1, ps]
        refine List.ext_getElem? fun q => ?_
        by_cases e : k = q
        · subst e
          rw [List.getElem?_set_self hkR, stdOf_get hkR]
        · rw [List.getElem?_set_ne e]
      · have hs : (st.2.set k (allNone (pruneStd tags R st.2 (stdOf st.1 k)))).getD j false = true := hs
        rw [h1, ps, List.getD_eq_getElem?_getD] at hs
        by_cases e : k = j
        · subst e
          rw [List.getElem?_set_self (by omega)] at hs
          exact hs
        · rw [List.getElem?_set_ne e, ← List.getD_eq_getElem?_getD] at hs
          exact h2 j hj hs
  refine all (byLen R) (R, List.replicate R.length false) rfl List.length_replicate (fun k hk h => ?_) fun k hk => byLen_lt hk
  have h : (List.replicate R.length false).getD k false = true := h
  rw [List.getD_eq_getElem?_getD, List.getElem?_replicate, if_pos hk] at h
  cases h
end QM
end

section
set_option linter.all false
set_option autoImplicit false
/-! Qleast5: the least form of a least form is itself. -/
namespace QM
open PySem QB L2
theorem map_up2 {β γ : Type} {a b : Ways} {f : Option Nat → β} {g : Option Nat → γ} {P : Option Nat → Prop} (ha : ∀ x ∈ a, P x) (hb : ∀ x ∈ b, P x) (up : ∀ x y, P x → P y → f x = f y → g x = g y) (h : a.map f = b.map f) : a.map g = b.map g := by
  induction a generalizing b with
  | nil =>
    cases b with
    | nil => rfl
    | cons y b => cases h
  | cons x a ih =>
    cases b with
    | nil => cases h
    | cons y b =>
      rw [List.map_cons, List.map_cons] at h
      injection h with h3 h4
      rw [List.map_cons, List.map_cons, up x y (ha x List.mem_cons_self) (hb y List.mem_cons_self) h3, ih (fun z hz => ha z (List.mem_cons_of_mem _ hz)) (fun z hz => hb z (List.mem_cons_of_mem _ hz)) h4]
def Resp (F : Form) (E : Nat → Nat → Prop) (cs : List Nat) : Prop := ∀ a b, a < F.length → b < F.length → E a b → clsOf cs a = clsOf cs b
theorem alike_coarse {F : Form} {E : Nat → Nat → Prop} (hw : ∀ a b, a < F.length → b < F.length → E a b → (stdOf F a).1 = (stdOf F b).1)
    (hE : ∀ cs, Resp F E cs → ∀ a b, a < F.length → b < F.length → E a b → (stdOf F a).2.map (Option.map (clsOf cs)) = (stdOf F b).2.map (Option.map (clsOf cs))) : Resp F E (alike F) := by
  have loop : ∀ (f many : Nat) (cs : List Nat), cs.length = F.length → Resp F E cs → Resp F E (alikeLoop F f many cs) := by
    intro f
    induction f with
    | zero => exact fun _ _ _ r => r
    | succ f ih =>
      intro many cs hl r
      unfold alikeLoop
      by_cases hm : many ≤ maxOf cs
      · rw [if_pos hm]
        refine ih _ _ (part_len hl) fun a b ha hb e => ?_
        refine (numb_inj (partKeys_get hl ha) (partKeys_get hl hb)).mpr ?_
        have e1 := r a b ha hb e
        have e2 : (stdOf F a).2.map (wayNum cs) = (stdOf F b).2.map (wayNum cs) := map_up2 (P := fun _ => True) (fun _ _ => trivial) (fun _ _ => trivial) (fun x y _ _ h => wayNum_of h) (hE cs r a b ha hb e)
        unfold partKey
        show NestedKey.tup [.num (clsOf cs a : Int), .tup ((stdOf F a).2.map (wayNum cs))] = .tup [.num (clsOf cs b : Int), .tup ((stdOf F b).2.map (wayNum cs))]
        rw [e1, e2]
      · rw [if_neg hm]
        exact r
  refine loop _ _ _ (by rw [QD.numb_len]; exact List.length_map _) fun a b ha hb e => ?_
  have gi : (wordKeys F)[a]? = some (wordKey (stdOf F a)) := by
    unfold wordKeys
    rw [List.getElem?_map, stdOf_get ha]
    rfl
  have gj : (wordKeys F)[b]? = some (wordKey (stdOf F b)) := by
    unfold wordKeys
    rw [List.getElem?_map, stdOf_get hb]
    rfl
  refine (numb_inj gi gj).mpr ?_
  unfold wordKey
  rw [hw a b ha hb e]
/-- the standings of a form put in order are apart -/
theorem ord_apart {tags : List Str} {F : Form} {met : List Nat} {R : Form} (g : Good tags F) (o : OrdOf F (alike F) met R) (hl : R.length = met.length) : ∀ i j, i < R.length → j < R.length → clsOf (alike R) i = clsOf (alike R) j → i = j := by
  have S := alike_stable g
  have gR := o.good g hl
  have S' := alike_stable gR
  have key : Resp F (fun a b => ∃ i j, i < R.length ∧ j < R.length ∧ clsOf (alike R) i = clsOf (alike R) j ∧ clsOf (alike F) a = clsOf (alike F) (met.getD i 0) ∧ clsOf (alike F) b = clsOf (alike F) (met.getD j 0)) (alike F) := by
    refine alike_coarse (fun a b ha hb e => ?_) fun cs r a b ha hb e => ?_
    · obtain ⟨i, j, hi, hj, h, h1, h2⟩ := e
      rw [S.word a _ ha (o.lt hi) h1, S.word b _ hb (o.lt hj) h2]
      have e := S'.word i j hi hj h
      rw [o.std hi, o.std hj] at e
      exact e
    · obtain ⟨i, j, hi, hj, h, h1, h2⟩ := e
      -- the same class of F, met
      have met_in : ∀ i, i < R.length → ∀ a, a < F.length → clsOf (alike F) a = clsOf (alike F) (met.getD i 0) → ∀ x ∈ (stdOf F a).2, ∀ m, x = some m → m < F.length ∧ clsOf (alike F) m ∈ met.map (clsOf (alike F)) := fun i hi a ha h1 x hx m e => by
        subst e
        refine ⟨g.std_to ha hx, ?_⟩
        have e := S.ways a _ ha (o.lt hi) h1
        have : some (clsOf (alike F) m) ∈ (stdOf F a).2.map (Option.map (clsOf (alike F))) := List.mem_map.mpr ⟨some m, hx, rfl⟩
        rw [e] at this
        obtain ⟨y, hy, ey⟩ := List.mem_map.mp this
        cases y with
        | none => cases ey
        | some n =>
          have ey : some (clsOf (alike F) n) = some (clsOf (alike F) m) := ey
          rw [← Option.some.inj ey]
          exact o.in_ i hi n hy
      have up1 : ∀ x y : Option Nat, (∀ m, x = some m → m < F.length ∧ clsOf (alike F) m ∈ met.map (clsOf (alike F))) → (∀ m, y = some m → m < F.length ∧ clsOf (alike F) m ∈ met.map (clsOf (alike F))) →
          x.map (clsOf (alike F)) = y.map (clsOf (alike F)) → x.map (clsOf cs) = y.map (clsOf cs) := fun x y hx hy e => by
        cases x with
        | none =>
          cases y with
          | none => rfl
          | some n => cases e
        | some m =>
          cases y with
          | none => cases e
          | some n =>
            have e : some (clsOf (alike F) m) = some (clsOf (alike F) n) := e
            obtain ⟨m1, m2⟩ := hx m rfl
            obtain ⟨n1, n2⟩ := hy n rfl
            obtain ⟨q1, q2⟩ := o.idx hl m2
            show some _ = some _
            rw [r m n m1 n1 ⟨_, _, q1, q1, rfl, q2.symm, by rw [q2]; exact (Option.some.inj e).symm⟩]
      have up2 : ∀ x y : Option Nat, (∀ m, x = some m → m < F.length ∧ clsOf (alike F) m ∈ met.map (clsOf (alike F))) → (∀ m, y = some m → m < F.length ∧ clsOf (alike F) m ∈ met.map (clsOf (alike F))) →
          (newWay (alike F) met x).map (clsOf (alike R)) = (newWay (alike F) met y).map (clsOf (alike R)) → x.map (clsOf cs) = y.map (clsOf cs) := fun x y hx hy e => by
        cases x with
        | none =>
          cases y with
          | none => rfl
          | some n => cases e
        | some m =>
          cases y with
          | none => cases e
          | some n =>
            obtain ⟨m1, m2⟩ := hx m rfl
            obtain ⟨n1, n2⟩ := hy n rfl
            obtain ⟨q1, q2⟩ := o.idx hl m2
            obtain ⟨q3, q4⟩ := o.idx hl n2
            have e : some (clsOf (alike R) ((met.map (clsOf (alike F))).idxOf (clsOf (alike F) m))) = some (clsOf (alike R) ((met.map (clsOf (alike F))).idxOf (clsOf (alike F) n))) := e
            show some _ = some _
            rw [r m n m1 n1 ⟨_, _, q1, q3, Option.some.inj e, q2.symm, q4.symm⟩]
      have mi := met_in i hi a ha h1
      have mi' := met_in i hi _ (o.lt hi) rfl
      have mj := met_in j hj b hb h2
      have mj' := met_in j hj _ (o.lt hj) rfl
      rw [map_up mi mi' up1 (S.ways a _ ha (o.lt hi) h1), map_up mj mj' up1 (S.ways b _ hb (o.lt hj) h2)]
      refine map_up2 (f := fun x => (newWay (alike F) met x).map (clsOf (alike R))) mi' mj' up2 ?_
      have e := S'.ways i j hi hj h
      rw [o.std hi, o.std hj] at e
      have e : ((stdOf F (met.getD i 0)).2.map (newWay (alike F) met)).map (Option.map (clsOf (alike R))) = ((stdOf F (met.getD j 0)).2.map (newWay (alike F) met)).map (Option.map (clsOf (alike R))) := e
      rw [List.map_map, List.map_map] at e
      exact e
  intro i j hi hj h
  have e := key _ _ (o.lt hi) (o.lt hj) ⟨i, j, hi, hj, h, rfl, rfl⟩
  have nd := o.m.nd
  have hi' : i < met.length := by omega
  have hj' : j < met.length := by omega
  have g1 : ∀ k (hk : k < met.length), (met.map (clsOf (alike F)))[k]'(by rw [List.length_map]; exact hk) = clsOf (alike F) (met.getD k 0) := fun k hk => by
    rw [List.getElem_map, List.getD_eq_getElem?_getD, List.getElem?_eq_getElem hk]
    rfl
  refine (List.getElem_inj (h₀ := by rw [List.length_map]; exact hi') (h₁ := by rw [List.length_map]; exact hj') nd).mp ?_
  rw [g1 i hi', g1 j hj']
  exact e
end QM
end

section
set_option linter.all false
set_option autoImplicit false
/-! Qleast6: a least form is in order. -/
namespace QM
open PySem QB L2
def orderMet (F : Form) (cs : List Nat) : Nat → List Nat → Form → List Nat
  | 0, met, _ => met
  | f + 1, met, told => if told.length < met.length then
      orderMet F cs f (visitAll cs met (stdOf F (met.getD told.length 0)).2) (told ++ [newStd cs (visitAll cs met (stdOf F (met.getD told.length 0)).2) (stdOf F (met.getD told.length 0))])
    else met
theorem orderMet_pre (F : Form) (cs : List Nat) : ∀ (f : Nat) (met : List Nat) (told : Form), ∃ t, orderMet F cs f met told = met ++ t
  | 0, met, _ => ⟨[], by simp [orderMet]⟩
  | f + 1, met, told => by
    unfold orderMet
    by_cases h : told.length < met.length
    · rw [if_pos h]
      obtain ⟨t1, e1⟩ := visitAll_pre cs (stdOf F (met.getD told.length 0)).2 met
      obtain ⟨t2, e2⟩ := orderMet_pre F cs f (visitAll cs met (stdOf F (met.getD told.length 0)).2) (told ++ [newStd cs (visitAll cs met (stdOf F (met.getD told.length 0)).2) (stdOf F (met.getD told.length 0))])
      exact ⟨t1 ++ t2, by rw [e2, e1, List.append_assoc]⟩
    · rw [if_neg h]
      exact ⟨[], by simp⟩
theorem orderMet_ord {tags : List Str} {F : Form} {cs : List Nat} (g : Good tags F) : ∀ (f : Nat) (met : List Nat) (told : Form), OrdOf F cs met told → F.length + 1 ≤ told.length + f → OrdOf F cs (orderMet F cs f met told) (orderLoop F cs f met told) ∧ (orderLoop F cs f met told).length = (orderMet F cs f met told).length
  | 0, met, told, o, h => by
    have := o.le
    have := o.m.len
    omega
  | f + 1, met, told, o, h => by
    unfold orderLoop orderMet
    by_cases hl : told.length < met.length
    · rw [if_pos hl, if_pos hl]
      exact orderMet_ord g f _ _ (o.step g hl) (by rw [List.length_append]; show _ ≤ told.length + 1 + f; omega)
    · rw [if_neg hl, if_neg hl]
      exact ⟨o, by have := o.le; omega⟩
section
variable {cs cs' M : List Nat} {n0 : Nat} (D : ∀ i j, i < n0 → j < n0 → clsOf cs' i = clsOf cs' j → i = j) (hM : M.length = n0)
include D hM
theorem visitAll_again : ∀ (ws : Ways) (mp t : List Nat), M = visitAll cs mp ws ++ t → visitAll cs' (List.range mp.length) (ws.map (newWay cs M)) = List.range (visitAll cs mp ws).length
  | [], mp, t, _ => rfl
  | w :: ws, mp, t, h => by
    have h' : M = visitAll cs (visit cs mp w) ws ++ t := h
    obtain ⟨t2, e2⟩ := visitAll_pre cs ws (visit cs mp w)
    have hp : M = visit cs mp w ++ (t2 ++ t) := by rw [h', e2, List.append_assoc]
    have one : visit cs' (List.range mp.length) (newWay cs M w) = List.range (visit cs mp w).length := by
      cases w with
      | none => rfl
      | some n =>
        show visit cs' (List.range mp.length) (some ((M.map (clsOf cs)).idxOf (clsOf cs n))) = _
        by_cases hm : clsOf cs n ∈ mp.map (clsOf cs)
        · have ev : visit cs mp (some n) = mp := if_pos hm
          rw [ev] at hp ⊢
          have ei : (M.map (clsOf cs)).idxOf (clsOf cs n) = (mp.map (clsOf cs)).idxOf (clsOf cs n) := by rw [hp, List.map_append, idxOf_pre' hm]
          have hlt := List.idxOf_lt_length_of_mem hm
          rw [List.length_map] at hlt
          rw [ei]
          exact if_pos (List.mem_map.mpr ⟨_, List.mem_range.mpr hlt, rfl⟩)
        · have ev : visit cs mp (some n) = mp ++ [n] := if_neg hm
          rw [ev] at hp ⊢
          have ei : (M.map (clsOf cs)).idxOf (clsOf cs n) = mp.length := by
            rw [hp, List.map_append, List.map_append, List.append_assoc, List.idxOf_append, if_neg hm, List.length_map]
            show List.idxOf (clsOf cs n) (clsOf cs n :: _) + mp.length = mp.length
            rw [List.idxOf_cons_self, Nat.zero_add]
          have hlen : mp.length < n0 := by
            rw [← hM, hp, List.length_append, List.length_append]
            show _ < _ + 1 + _
            omega
          rw [ei, List.length_append]
          have hno : clsOf cs' mp.length ∉ (List.range mp.length).map (clsOf cs') := fun hc => by
            obtain ⟨i, hi, e⟩ := List.mem_map.mp hc
            rw [List.mem_range] at hi
            have := D i mp.length (by omega) hlen e
            omega
          show (if clsOf cs' mp.length ∈ (List.range mp.length).map (clsOf cs') then List.range mp.length else List.range mp.length ++ [mp.length]) = List.range (mp.length + 1)
          rw [if_neg hno, List.range_succ]
    show visitAll cs' (visit cs' (List.range mp.length) (newWay cs M w)) (ws.map (newWay cs M)) = List.range (visitAll cs (visit cs mp w) ws).length
    rw [one]
    exact visitAll_again ws (visit cs mp w) t h'
theorem newStd_again {s : Std} {K : Nat} (hK : K ≤ n0) (hs : ∀ i, some i ∈ s.2 → i < K) : newStd cs' (List.range K) s = s := by
  have nd : ((List.range K).map (clsOf cs')).Nodup := by
    refine List.pairwise_map.mpr (List.nodup_range.imp_of_mem fun {i j} hi hj hne e => hne ?_)
    rw [List.mem_range] at hi hj
    exact D i j (by omega) (by omega) e
  unfold newStd
  have e : s.2.map (newWay cs' (List.range K)) = s.2 := by
    refine (List.map_congr_left fun x hx => ?_).trans (List.map_id _)
    cases x with
    | none => rfl
    | some i =>
      have hi := hs i hx
      have hi' : i < ((List.range K).map (clsOf cs')).length := by rw [List.length_map, List.length_range]; exact hi
      have := idxOf_nodup nd hi'
      rw [List.getElem_map, List.getElem_range] at this
      show some (((List.range K).map (clsOf cs')).idxOf (clsOf cs' i)) = some i
      rw [this]
  rw [e]
end
theorem order_again {tags : List Str} {F : Form} {cs cs' M : List Nat} {R : Form} (g : Good tags F) (oR : OrdOf F cs M R) (hM : R.length = M.length) (D : ∀ i j, i < R.length → j < R.length → clsOf cs' i = clsOf cs' j → i = j) :
    ∀ (f f' : Nat) (mp : List Nat) (told : Form), OrdOf F cs mp told → F.length + 1 ≤ told.length + f → R.length + 1 ≤ told.length + f' → orderMet F cs f mp told = M → orderLoop F cs f mp told = R → orderLoop R cs' f' (List.range mp.length) told = R
  | 0, _, mp, told, o, h, _, _, _ => by
    have := o.le
    have := o.m.len
    omega
  | f + 1, 0, mp, told, o, h, h', eM, _ => by
    obtain ⟨t, e⟩ := orderMet_pre F cs (f + 1) mp told
    rw [eM] at e
    have := o.le
    rw [hM, e, List.length_append] at h'
    omega
  | f + 1, f' + 1, mp, told, o, h, h', eM, eR => by
    unfold orderLoop at eR ⊢
    unfold orderMet at eM
    rw [List.length_range]
    by_cases hl : told.length < mp.length
    · rw [if_pos hl] at eR eM ⊢
      obtain ⟨t, et⟩ := orderMet_pre F cs f (visitAll cs mp (stdOf F (mp.getD told.length 0)).2) (told ++ [newStd cs (visitAll cs mp (stdOf F (mp.getD told.length 0)).2) (stdOf F (mp.getD told.length 0))])
      rw [eM] at et
      obtain ⟨t1, et1⟩ := visitAll_pre cs (stdOf F (mp.getD told.length 0)).2 mp
      have hs : told.length < R.length := by
        rw [hM, et, et1, List.length_append, List.length_append]
        omega
      have gd : (List.range mp.length).getD told.length 0 = told.length := by
        rw [List.getD_eq_getElem?_getD, List.getElem?_range hl]
        rfl
      have gM : M.getD told.length 0 = mp.getD told.length 0 := by
        rw [et, et1, List.append_assoc]
        exact getD_pre hl
      have sR := oR.std hs
      rw [gM] at sR
      have has := visitAll_has cs (stdOf F (mp.getD told.length 0)).2 mp
      have va := visitAll_again (cs' := cs') D hM.symm (stdOf F (mp.getD told.length 0)).2 mp t et
      have n1 : newStd cs (visitAll cs mp (stdOf F (mp.getD told.length 0)).2) (stdOf F (mp.getD told.length 0)) = stdOf R told.length := by
        rw [sR, et, newStd_pre has]
      have st := o.step g hl
      rw [n1] at eR eM st
      have hK : (visitAll cs mp (stdOf F (mp.getD told.length 0)).2).length ≤ R.length := by
        rw [hM]
        have := congrArg List.length et
        rw [List.length_append] at this
        omega
      have n2 : newStd cs' (List.range (visitAll cs mp (stdOf F (mp.getD told.length 0)).2).length) (stdOf R told.length) = stdOf R told.length := by
        refine newStd_again (cs' := cs') D hM.symm hK fun i hi => ?_
        rw [sR] at hi
        obtain ⟨x, hx, e⟩ := List.mem_map.mp (show some i ∈ (stdOf F (mp.getD told.length 0)).2.map (newWay cs M) from hi)
        cases x with
        | none => cases e
        | some n =>
          have e : some ((M.map (clsOf cs)).idxOf (clsOf cs n)) = some i := e
          have hc := has n hx
          rw [← Option.some.inj e, et, List.map_append, idxOf_pre' hc]
          have := List.idxOf_lt_length_of_mem hc
          rwa [List.length_map] at this
      have wR : (stdOf R told.length).2 = (stdOf F (mp.getD told.length 0)).2.map (newWay cs M) := by
        rw [sR]
        rfl
      rw [gd, wR, va, n2]
      exact order_again g oR hM D f f' _ _ st (by rw [List.length_append]; show _ ≤ told.length + 1 + f; omega) (by rw [List.length_append]; show _ ≤ told.length + 1 + f'; omega) eM eR
    · rw [if_neg hl] at eR ⊢
      exact eR
theorem inOrder_again {tags : List Str} {F : Form} (g : Good tags F) : inOrder (inOrder F (alike F)) (alike (inOrder F (alike F))) = inOrder F (alike F) := by
  have o0 : OrdOf F (alike F) [0] [] := ⟨⟨by simp, fun m hm => by rw [List.mem_singleton.mp hm]; exact g.pos⟩, rfl, by simp, fun i hi => absurd hi (Nat.not_lt_zero _), fun i hi => absurd hi (Nat.not_lt_zero _)⟩
  obtain ⟨o, hl⟩ := orderMet_ord g (F.length + 1) [0] [] o0 (by simp)
  have e := order_again g o hl (ord_apart g o hl) (F.length + 1) ((orderLoop F (alike F) (F.length + 1) [0] []).length + 1) [0] [] o0 (by simp) (by simp) rfl rfl
  exact e
theorem least_again {tags : List Str} {F : Form} (g : Good tags F) (nd : tags.Nodup) : least tags (least tags F) = least tags F := by
  have gR := least_good g
  have e := needless_same gR nd fun i j t hi ht h hw => least_none g hi ht h hw
  show inOrder (needless tags (least tags F)) (alike (needless tags (least tags F))) = _
  rw [e]
  exact inOrder_again (needless_good g)
end QM
end

section
set_option linter.all false
set_option autoImplicit false
/-! Qmade: which words are made of some word. -/
namespace QM
open PySem QB
/-- where a word leads -/
def leads (tags : List Str) (F : Form) : Nat → Word → Option Nat
  | i, [] => some i
  | i, t :: w => (wayAt tags F i t).bind fun b => leads tags F b w
theorem leads_eff {tags : List Str} {F : Form} : ∀ (p : Word) {i j : Nat} (q : Word), leads tags F i p = some j → eff tags F i (p ++ q) = eff tags F j q
  | [], i, j, q, h => by
    have h : some i = some j := h
    rw [Option.some.inj h]
    rfl
  | t :: p, i, j, q, h => by
    have h : (wayAt tags F i t).bind (fun b => leads tags F b p) = some j := h
    show eff tags F i (t :: (p ++ q)) = _
    rw [eff_cons]
    cases e : wayAt tags F i t with
    | none =>
      rw [e] at h
      cases h
    | some b =>
      rw [e] at h
      exact leads_eff p q h
theorem leads_snoc {tags : List Str} {F : Form} : ∀ (p : Word) {i j k : Nat} {t : Str}, leads tags F i p = some j → wayAt tags F j t = some k → leads tags F i (p ++ [t]) = some k
  | [], i, j, k, t, h, w => by
    have h : some i = some j := h
    rw [← Option.some.inj h] at w
    show (wayAt tags F i t).bind (fun b => leads tags F b []) = some k
    rw [w]
    rfl
  | s :: p, i, j, k, t, h, w => by
    have h : (wayAt tags F i s).bind (fun b => leads tags F b p) = some j := h
    show (wayAt tags F i s).bind (fun b => leads tags F b (p ++ [t])) = some k
    cases e : wayAt tags F i s with
    | none =>
      rw [e] at h
      cases h
    | some b =>
      rw [e] at h
      exact leads_snoc p h w
theorem eff_stop {tags : List Str} {F : Form} : ∀ (u : Word) (i : Nat), ∃ (j : Nat) (p r : Word), u = p ++ r ∧ leads tags F i p = some j ∧ eff tags F i u = wordOf F j ++ r ∧ (r = [] ∨ ∃ t r', r = t :: r' ∧ wayAt tags F j t = none)
  | [], i => ⟨i, [], [], rfl, rfl, by simp [eff], .inl rfl⟩
  | t :: u, i => by
    cases e : wayAt tags F i t with
    | none => exact ⟨i, [], t :: u, rfl, rfl, by rw [eff_cons, e], .inr ⟨t, u, rfl, e⟩⟩
    | some b =>
      obtain ⟨j, p, r, h1, h2, h3, h4⟩ := eff_stop (tags := tags) (F := F) u b
      refine ⟨j, t :: p, r, by rw [h1]; rfl, ?_, ?_, h4⟩
      · show (wayAt tags F i t).bind (fun b => leads tags F b p) = some j
        rw [e]
        exact h2
      · rw [eff_cons, e]
        exact h3
/-- a word is made exactly if it begins with the word of a standing that can be come to, and goes on with a tag for which this has no way -/
theorem made_iff {tags : List Str} {F : Form} {wd : Word} : (∃ u : Word, (∀ t ∈ u, t ∈ tags) ∧ eff tags F 0 u = wd) ↔ ∃ (j : Nat) (p r : Word), (∀ t ∈ p, t ∈ tags) ∧ (∀ t ∈ r, t ∈ tags) ∧ leads tags F 0 p = some j ∧ wd = wordOf F j ++ r ∧ (r = [] ∨ ∃ t r', r = t :: r' ∧ wayAt tags F j t = none) := by
  constructor
  · rintro ⟨u, hu, e⟩
    obtain ⟨j, p, r, h1, h2, h3, h4⟩ := eff_stop (tags := tags) (F := F) u 0
    refine ⟨j, p, r, fun t ht => hu t (by rw [h1]; exact List.mem_append_left _ ht), fun t ht => hu t (by rw [h1]; exact List.mem_append_right _ ht), h2, by rw [← e]; exact h3, h4⟩
  · rintro ⟨j, p, r, hp, hr, h2, h3, h4⟩
    refine ⟨p ++ r, fun t ht => (List.mem_append.mp ht).elim (hp t) (hr t), ?_⟩
    rw [leads_eff p r h2, h3]
    rcases h4 with rfl | ⟨t, r', rfl, e⟩
    · simp [eff]
    · rw [eff_cons, e]
/-- each standing that is met is come to by an earlier one -/
structure From (F : Form) (cs met : List Nat) (n : Nat) : Prop where
  by_ : ∀ i, 0 < i → i < met.length → ∃ j, j < i ∧ j < n ∧ ∃ m, some m ∈ (stdOf F (met.getD j 0)).2 ∧ clsOf cs m = clsOf cs (met.getD i 0)
theorem visitAll_new (cs : List Nat) : ∀ (ws : Ways) (met : List Nat) (i : Nat), met.length ≤ i → i < (visitAll cs met ws).length → some ((visitAll cs met ws).getD i 0) ∈ ws
  | [], met, i, h, h' => by
    have h' : i < met.length := h'
    omega
  | w :: ws, met, i, h, h' => by
    show some ((visitAll cs (visit cs met w) ws).getD i 0) ∈ w :: ws
    have h' : i < (visitAll cs (visit cs met w) ws).length := h'
    by_cases hi : (visit cs met w).length ≤ i
    · exact List.mem_cons_of_mem _ (visitAll_new cs ws (visit cs met w) i hi h')
    · obtain ⟨t, e⟩ := visitAll_pre cs ws (visit cs met w)
      rw [e, getD_pre (by omega)]
      cases w with
      | none =>
        have : (visit cs met none).length = met.length := rfl
        omega
      | some n =>
        by_cases hm : clsOf cs n ∈ met.map (clsOf cs)
        · have ev : visit cs met (some n) = met := if_pos hm
          rw [ev] at hi
          omega
        · have ev : visit cs met (some n) = met ++ [n] := if_neg hm
          rw [ev, List.length_append] at hi
          have hi : ¬ met.length + 1 ≤ i := hi
          have : i = met.length := by omega
          subst this
          rw [ev, List.getD_eq_getElem?_getD, List.getElem?_append_right (Nat.le_refl _), Nat.sub_self]
          exact List.mem_cons_self
theorem orderMet_from {F : Form} {cs : List Nat} : ∀ (f : Nat) (met : List Nat) (told : Form), told.length ≤ met.length → From F cs met told.length → ∃ n, n ≤ (orderMet F cs f met told).length ∧ From F cs (orderMet F cs f met told) n
  | 0, met, told, h, b => ⟨told.length, h, b⟩
  | f + 1, met, told, h, b => by
    unfold orderMet
    by_cases hl : told.length < met.length
    · rw [if_pos hl]
      obtain ⟨t, e⟩ := visitAll_pre cs (stdOf F (met.getD told.length 0)).2 met
      refine orderMet_from f _ _ (by rw [List.length_append, e, List.length_append]; show told.length + 1 ≤ _; omega) ⟨fun i h0 hi => ?_⟩
      rw [List.length_append]
      by_cases hm : i < met.length
      · obtain ⟨j, h1, h2, m, h3, h4⟩ := b.by_ i h0 hm
        refine ⟨j, h1, Nat.lt_succ_of_lt h2, m, ?_, ?_⟩
        · rw [e, getD_pre (by omega)]
          exact h3
        · rw [e, getD_pre hm]
          exact h4
      · refine ⟨told.length, by omega, Nat.lt_succ_self _, _, ?_, rfl⟩
        have := visitAll_new cs (stdOf F (met.getD told.length 0)).2 met i (by omega) hi
        have e2 : (visitAll cs met (stdOf F (met.getD told.length 0)).2).getD told.length 0 = met.getD told.length 0 := by rw [e, getD_pre hl]
        rw [e2]
        exact this
    · rw [if_neg hl]
      exact ⟨told.length, h, b⟩
/-- each standing of a form put in order can be come to -/
theorem inOrder_reach {tags : List Str} {F : Form} (g : Good tags F) (nd : tags.Nodup) (cs : List Nat) : ∀ i, i < (inOrder F cs).length → ∃ p : Word, (∀ t ∈ p, t ∈ tags) ∧ leads tags (inOrder F cs) 0 p = some i := by
  have o0 : OrdOf F cs [0] [] := ⟨⟨by simp, fun m hm => by rw [List.mem_singleton.mp hm]; exact g.pos⟩, rfl, by simp, fun i hi => absurd hi (Nat.not_lt_zero _), fun i hi => absurd hi (Nat.not_lt_zero _)⟩
  obtain ⟨o, hl⟩ := orderMet_ord g (F.length + 1) [0] [] o0 (by simp)
  obtain ⟨n, _, fr⟩ := orderMet_from (F := F) (cs := cs) (F.length + 1) [0] [] (Nat.zero_le _) ⟨fun i h0 hi => by
    have hi : i < 1 := hi
    omega⟩
  intro i
  induction i using Nat.strongRecOn with
  | ind i ih =>
    intro hi
    by_cases h0 : i = 0
    · subst h0
      exact ⟨[], fun _ h => (nomatch h), rfl⟩
    · have hl' : (inOrder F cs).length = (orderMet F cs (F.length + 1) [0] []).length := hl
      obtain ⟨j, hj, _, m, hm, hc⟩ := fr.by_ i (by omega) (by omega)
      obtain ⟨p, hp, lp⟩ := ih j hj (by omega)
      have hjR : j < (inOrder F cs).length := by omega
      obtain ⟨q, hq, eq⟩ := List.mem_iff_getElem.mp hm
      have hql : q < tags.length := by rw [← g.std_len (o.lt hjR)]; exact hq
      have eq' : (stdOf F ((orderMet F cs (F.length + 1) [0] []).getD j 0)).2[q]? = some (some m) := by rw [List.getElem?_eq_getElem hq, eq]
      refine ⟨p ++ [tags[q]], fun t ht => (List.mem_append.mp ht).elim (hp t) (fun h => by rw [List.mem_singleton.mp h]; exact List.getElem_mem hql), leads_snoc p lp ?_⟩
      have hw : way tags (stdOf F ((orderMet F cs (F.length + 1) [0] []).getD j 0)) tags[q] = some m := by
        unfold way ixOf
        rw [idxOf_nodup nd hql, eq']
        rfl
      have sj := o.std hjR
      rw [wayAt_std hjR]
      rw [show stdOf (inOrder F cs) j = newStd cs (orderMet F cs (F.length + 1) [0] []) (stdOf F ((orderMet F cs (F.length + 1) [0] []).getD j 0)) from sj]
      have e := way_map tags (stdOf F ((orderMet F cs (F.length + 1) [0] []).getD j 0)) (newWay cs (orderMet F cs (F.length + 1) [0] [])) rfl tags[q]
      rw [show newStd cs (orderMet F cs (F.length + 1) [0] []) (stdOf F ((orderMet F cs (F.length + 1) [0] []).getD j 0)) = ((stdOf F ((orderMet F cs (F.length + 1) [0] []).getD j 0)).1, (stdOf F ((orderMet F cs (F.length + 1) [0] []).getD j 0)).2.map (newWay cs (orderMet F cs (F.length + 1) [0] []))) from rfl, e, hw]
      show some (((orderMet F cs (F.length + 1) [0] []).map (clsOf cs)).idxOf (clsOf cs m)) = some i
      have hiM : i < (orderMet F cs (F.length + 1) [0] []).length := by omega
      have hiM' : i < ((orderMet F cs (F.length + 1) [0] []).map (clsOf cs)).length := by rw [List.length_map]; exact hiM
      have e3 := idxOf_nodup o.m.nd hiM'
      rw [List.getElem_map] at e3
      rw [hc, List.getD_eq_getElem?_getD, List.getElem?_eq_getElem hiM]
      exact congrArg some e3
theorem least_reach {tags : List Str} {F : Form} (g : Good tags F) (nd : tags.Nodup) {i : Nat} (h : i < (least tags F).length) : ∃ p : Word, (∀ t ∈ p, t ∈ tags) ∧ leads tags (least tags F) 0 p = some i := inOrder_reach (needless_good g) nd _ i h
end QM
end

section
set_option linter.all false
set_option autoImplicit false
/-! Qthen: one eater behind the other. -/
namespace QM
open PySem QB
/-- ways to standings that stand further on -/
def shift (by_ : Nat) (ws : Ways) : Ways := ws.map fun x => x.map (· + by_)
/-- the ways with which the second one goes on where the first one has stopped -/
def onward (tags : List Str) (B : Form) (word : Word) : Ways :=
  if (walk tags B word).2 = word.length then (stdOf B (walk tags B word).1).2 else tags.map fun _ => none
def joinWay : Option Nat → Option Nat → Option Nat
  | none, o => o
  | some n, _ => some n
def thenStd (tags : List Str) (B : Form) (n : Nat) (s : Std) : Std :=
  (wordOf B (walk tags B s.1).1 ++ s.1.drop (walk tags B s.1).2, (s.2.zip (shift n (onward tags B s.1))).map fun z => joinWay z.1 z.2)
def thenForm (tags : List Str) (A B : Form) : Form := A.map (thenStd tags B A.length) ++ B.map fun s => (s.1, shift A.length s.2)
section
variable {tags : List Str} {A B : Form}
theorem thenForm_len : (thenForm tags A B).length = A.length + B.length := by
  unfold thenForm
  rw [List.length_append, List.length_map, List.length_map]
theorem thenForm_fst {i : Nat} (h : i < A.length) : stdOf (thenForm tags A B) i = thenStd tags B A.length (stdOf A i) := by
  have e := stdOf_get h
  have e2 : (thenForm tags A B)[i]? = some (thenStd tags B A.length (stdOf A i)) := by
    unfold thenForm
    rw [List.getElem?_append_left (by rw [List.length_map]; exact h), List.getElem?_map, e]
    rfl
  unfold stdOf at e2 ⊢
  rw [List.getD_eq_getElem?_getD, e2]
  rfl
theorem thenForm_snd {j : Nat} (h : j < B.length) : stdOf (thenForm tags A B) (A.length + j) = ((stdOf B j).1, shift A.length (stdOf B j).2) := by
  have e := stdOf_get h
  have e2 : (thenForm tags A B)[A.length + j]? = some ((stdOf B j).1, shift A.length (stdOf B j).2) := by
    unfold thenForm
    rw [List.getElem?_append_right (by rw [List.length_map]; omega), List.length_map, Nat.add_sub_cancel_left, List.getElem?_map, e]
    rfl
  unfold stdOf at e2 ⊢
  rw [List.getD_eq_getElem?_getD, e2]
  rfl
theorem shift_len {n : Nat} {ws : Ways} : (shift n ws).length = ws.length := List.length_map _
theorem onward_len (g : Good tags B) {w : Word} (h : ∀ t ∈ w, t ∈ tags) : (onward tags B w).length = tags.length := by
  unfold onward
  split
  · exact g.std_len (walk_lt g h).1
  · exact List.length_map _
theorem way_shift {n : Nat} {s : Std} {t : Str} : way tags (s.1, shift n s.2) t = (way tags s t).map (· + n) := by
  have e := way_map tags s (fun x => x.map (· + n)) rfl t
  exact e
theorem way_then {n : Nat} {s : Std} {t : Str} (ht : t ∈ tags) (h1 : s.2.length = tags.length) (g : Good tags B) (hw : ∀ t ∈ s.1, t ∈ tags) :
    way tags (thenStd tags B n s) t = joinWay (way tags s t) ((way tags (s.1, onward tags B s.1) t).map (· + n)) := by
  have hlt := List.idxOf_lt_length_of_mem ht
  have ho := onward_len g hw
  have e1 : s.2[tags.idxOf t]? = some (way tags s t) := by
    unfold way ixOf
    rw [List.getElem?_eq_getElem (by omega)]
    rfl
  have e2 : (onward tags B s.1)[tags.idxOf t]? = some (way tags (s.1, onward tags B s.1) t) := by
    unfold way ixOf
    show _ = some ((onward tags B s.1)[tags.idxOf t]?).join
    rw [List.getElem?_eq_getElem (by omega)]
    rfl
  have e3 : (shift n (onward tags B s.1))[tags.idxOf t]? = some ((way tags (s.1, onward tags B s.1) t).map (· + n)) := by
    unfold shift
    rw [List.getElem?_map, e2]
    rfl
  have e4 : (s.2.zip (shift n (onward tags B s.1)))[tags.idxOf t]? = some (way tags s t, (way tags (s.1, onward tags B s.1) t).map (· + n)) := by
    rw [List.getElem?_zip_eq_some]
    exact ⟨e1, e3⟩
  show (((s.2.zip (shift n (onward tags B s.1))).map fun z => joinWay z.1 z.2)[tags.idxOf t]?).join = _
  rw [List.getElem?_map, e4]
  rfl
theorem way_none {s : Std} {t : Str} (h : ∀ x ∈ s.2, x = none) : way tags s t = none := by
  unfold way ixOf
  cases e : s.2[tags.idxOf t]? with
  | none => rfl
  | some x =>
    rw [h x (List.mem_of_getElem? e)]
    rfl
/-- standings that are good, with words of the tags -/
structure GoodW (tags : List Str) (F : Form) : Prop extends Good tags F where
  sub : ∀ s ∈ F, ∀ t ∈ s.1, t ∈ tags
theorem eff_snd (gA : Good tags A) (gB : Good tags B) : ∀ (u : Word) (j : Nat), j < B.length → eff tags (thenForm tags A B) (A.length + j) u = eff tags B j u
  | [], j, h => by
    show wordOf _ _ = wordOf _ _
    rw [wordOf_std (by rw [thenForm_len]; omega), thenForm_snd h, wordOf_std h]
  | t :: u, j, h => by
    have hl : A.length + j < (thenForm tags A B).length := by rw [thenForm_len]; omega
    rw [eff_cons, eff_cons, wayAt_std hl, thenForm_snd h, way_shift, wayAt_std h]
    cases e : way tags (stdOf B j) t with
    | none =>
      show wordOf _ _ ++ _ = wordOf _ _ ++ _
      rw [wordOf_std hl, thenForm_snd h, wordOf_std h]
    | some m =>
      have hm := gB.std_to h (way_mem e)
      show eff tags (thenForm tags A B) (m + A.length) u = eff tags B m u
      rw [Nat.add_comm]
      exact eff_snd gA gB u m hm
theorem walkFrom_off (F : Form) : ∀ (w : Word) (a k : Nat), walkFrom tags F a k w = ((walkFrom tags F a 0 w).1, (walkFrom tags F a 0 w).2 + k)
  | [], a, k => by
    unfold walkFrom
    rw [Nat.zero_add]
  | t :: w, a, k => by
    unfold walkFrom
    cases wayAt tags F a t with
    | none => show (a, k) = (a, 0 + k); rw [Nat.zero_add]
    | some n =>
      show walkFrom tags F n (k + 1) w = ((walkFrom tags F n (0 + 1) w).1, (walkFrom tags F n (0 + 1) w).2 + k)
      rw [walkFrom_off F w n (k + 1), walkFrom_off F w n (0 + 1)]
      show (_, _) = (_, _)
      congr 1
      omega
/-- behind a word that is taken whole the rest is gone on with -/
theorem eff_append (g : Good tags B) : ∀ (w : Word) (i : Nat) (u : Word), i < B.length → (∀ t ∈ w, t ∈ tags) → eff tags B i (w ++ u) = (if (walkFrom tags B i 0 w).2 = w.length then eff tags B (walkFrom tags B i 0 w).1 u else wordOf B (walkFrom tags B i 0 w).1 ++ w.drop (walkFrom tags B i 0 w).2 ++ u)
  | [], i, u, hi, h => by
    unfold walkFrom
    rfl
  | t :: w, i, u, hi, h => by
    rw [List.cons_append, eff_cons]
    unfold walkFrom
    cases e : wayAt tags B i t with
    | none =>
      show wordOf B i ++ t :: (w ++ u) = if (0 : Nat) = (t :: w).length then _ else wordOf B i ++ (t :: w).drop 0 ++ u
      rw [if_neg (by simp)]
      simp
    | some n =>
      have hn : n < B.length := by
        rw [wayAt_std hi] at e
        exact g.std_to hi (way_mem e)
      show eff tags B n (w ++ u) = _
      rw [eff_append g w n u hn fun s hs => h s (List.mem_cons_of_mem _ hs)]
      show _ = if (walkFrom tags B n (0 + 1) w).2 = (t :: w).length then eff tags B (walkFrom tags B n (0 + 1) w).1 u else wordOf B (walkFrom tags B n (0 + 1) w).1 ++ (t :: w).drop (walkFrom tags B n (0 + 1) w).2 ++ u
      rw [walkFrom_off B w n (0 + 1)]
      generalize walkFrom tags B n 0 w = z
      obtain ⟨z1, z2⟩ := z
      by_cases hz : z2 = w.length
      · rw [if_pos hz, if_pos (by show z2 + (0 + 1) = w.length + 1; omega)]
      · rw [if_neg hz, if_neg (by show ¬ z2 + (0 + 1) = w.length + 1; omega)]
        rfl
theorem eff_then (gA : GoodW tags A) (gB : Good tags B) : ∀ (u : Word) (i : Nat), i < A.length → (∀ t ∈ u, t ∈ tags) → eff tags (thenForm tags A B) i u = eff tags B 0 (eff tags A i u)
  | [], i, hi, h => by
    have hs : ∀ t ∈ (stdOf A i).1, t ∈ tags := gA.sub _ (mem_of (stdOf_get hi))
    show wordOf _ _ = eff tags B 0 (wordOf A i)
    rw [wordOf_std (by rw [thenForm_len]; omega), thenForm_fst hi, wordOf_std hi]
    have e := walkFrom_eff tags B (stdOf A i).1 0 0
    rw [Nat.sub_zero] at e
    exact e
  | t :: u, i, hi, h => by
    have hs : ∀ t ∈ (stdOf A i).1, t ∈ tags := gA.sub _ (mem_of (stdOf_get hi))
    have ht := h t List.mem_cons_self
    have hu : ∀ s ∈ u, s ∈ tags := fun s hs => h s (List.mem_cons_of_mem _ hs)
    have hl : i < (thenForm tags A B).length := by rw [thenForm_len]; omega
    rw [eff_cons, wayAt_std hl, thenForm_fst hi, way_then ht (gA.std_len hi) gB hs, eff_cons, wayAt_std hi]
    cases e : way tags (stdOf A i) t with
    | some n =>
      have hn := gA.std_to hi (way_mem e)
      exact eff_then gA gB u n hn hu
    | none =>
      have go : ∀ (o : Option Nat) (d : Word), (∀ b, o = some b → eff tags (thenForm tags A B) b u = d) → (o = none → wordOf (thenForm tags A B) i ++ t :: u = d) → (match joinWay none o with
        | none => wordOf (thenForm tags A B) i ++ t :: u
        | some b => eff tags (thenForm tags A B) b u) = d := fun o d h1 h2 => by
        cases o with
        | none => exact h2 rfl
        | some b => exact h1 b rfl
      refine go _ _ (fun b hb => ?_) fun hb => ?_
      all_goals
        show _ = eff tags B 0 (wordOf A i ++ t :: u)
        rw [wordOf_std hi, eff_append gB _ 0 _ gB.pos hs]
        show _ = if (walk tags B (stdOf A i).1).2 = (stdOf A i).1.length then eff tags B (walk tags B (stdOf A i).1).1 (t :: u) else wordOf B (walk tags B (stdOf A i).1).1 ++ (stdOf A i).1.drop (walk tags B (stdOf A i).1).2 ++ t :: u
        have hw := walk_lt gB hs
        unfold onward at hb
      · by_cases hz : (walk tags B (stdOf A i).1).2 = (stdOf A i).1.length
        · rw [if_pos hz] at hb ⊢
          have e5 : way tags ((stdOf A i).1, (stdOf B (walk tags B (stdOf A i).1).1).2) t = way tags (stdOf B (walk tags B (stdOf A i).1).1) t := rfl
          rw [e5] at hb
          rw [eff_cons, wayAt_std hw.1]
          cases e6 : way tags (stdOf B (walk tags B (stdOf A i).1).1) t with
          | none =>
            rw [e6] at hb
            cases hb
          | some m =>
            rw [e6] at hb
            have hb : some (m + A.length) = some b := hb
            rw [← Option.some.inj hb, Nat.add_comm]
            exact eff_snd gA.toGood gB u m (gB.std_to hw.1 (way_mem e6))
        · rw [if_neg hz] at hb
          have e7 : way tags ((stdOf A i).1, tags.map fun _ => none) t = none := way_none fun x hx => by
            obtain ⟨_, _, e⟩ := List.mem_map.mp hx
            exact e.symm
          rw [e7] at hb
          cases hb
      · rw [wordOf_std hl, thenForm_fst hi]
        show (wordOf B (walk tags B (stdOf A i).1).1 ++ (stdOf A i).1.drop (walk tags B (stdOf A i).1).2) ++ t :: u = _
        by_cases hz : (walk tags B (stdOf A i).1).2 = (stdOf A i).1.length
        · rw [if_pos hz] at hb ⊢
          have e5 : way tags ((stdOf A i).1, (stdOf B (walk tags B (stdOf A i).1).1).2) t = way tags (stdOf B (walk tags B (stdOf A i).1).1) t := rfl
          rw [e5] at hb
          rw [eff_cons, wayAt_std hw.1]
          cases e6 : way tags (stdOf B (walk tags B (stdOf A i).1).1) t with
          | none =>
            show _ = wordOf B (walk tags B (stdOf A i).1).1 ++ t :: u
            rw [hz, List.drop_length, List.append_nil]
          | some m =>
            rw [e6] at hb
            cases hb
        · rw [if_neg hz]
theorem make_then (gA : GoodW tags A) (gB : Good tags B) {u : Word} (h : ∀ t ∈ u, t ∈ tags) : make tags (thenForm tags A B) u = make tags B (make tags A u) := by
  rw [make_eff, make_eff, make_eff]
  exact eff_then gA gB u 0 gA.pos h
theorem thenForm_good (gA : GoodW tags A) (gB : Good tags B) (hs : A.length + B.length ≤ 5000) : Good tags (thenForm tags A B) := by
  refine ⟨by rw [thenForm_len]; have := gA.pos; omega, fun s hs => ?_, fun s hs n hn => ?_, by rw [thenForm_len]; exact hs⟩
  · rcases List.mem_append.mp hs with h | h
    · obtain ⟨s', h1, rfl⟩ := List.mem_map.mp h
      show ((s'.2.zip (shift A.length (onward tags B s'.1))).map _).length = _
      rw [List.length_map, List.length_zip, shift_len, onward_len gB (gA.sub s' h1), gA.len s' h1, Nat.min_self]
    · obtain ⟨s', h1, rfl⟩ := List.mem_map.mp h
      show (shift A.length s'.2).length = _
      rw [shift_len, gB.len s' h1]
  · rw [thenForm_len]
    rcases List.mem_append.mp hs with h | h
    · obtain ⟨s', h1, rfl⟩ := List.mem_map.mp h
      obtain ⟨z, hz, e⟩ := List.mem_map.mp hn
      obtain ⟨z1, z2⟩ := z
      obtain ⟨m1, m2⟩ := List.of_mem_zip hz
      cases z1 with
      | some m =>
        have e : some m = some n := e
        have e := Option.some.inj e
        have := gA.to s' h1 m m1
        omega
      | none =>
        have e : z2 = some n := e
        subst e
        obtain ⟨x, hx, ex⟩ := List.mem_map.mp m2
        cases x with
        | none => cases ex
        | some m =>
          have ex : some (m + A.length) = some n := ex
          have ex := Option.some.inj ex
          unfold onward at hx
          split at hx
          · have := gB.std_to (walk_lt gB (gA.sub s' h1)).1 hx
            omega
          · obtain ⟨_, _, e⟩ := List.mem_map.mp hx
            cases e
    · obtain ⟨s', h1, rfl⟩ := List.mem_map.mp h
      obtain ⟨x, hx, ex⟩ := List.mem_map.mp hn
      cases x with
      | none => cases ex
      | some m =>
        have ex : some (m + A.length) = some n := ex
        have ex := Option.some.inj ex
        have := gB.to s' h1 m hx
        omega
end
end QM
end

section
set_option linter.all false
set_option autoImplicit false
/-! Qsame: what is alike has the same least form. -/
namespace QM
open PySem QB L2
section
variable {tags : List Str} {R S : Form}
/-- no way that does what stopping ahead of the tag does, as far as a settled standing goes -/
def NoIdle (tags : List Str) (R : Form) : Prop := ∀ i j t, i < R.length → t ∈ tags → way tags (stdOf R i) t = some j → (stdOf R j).1 = (stdOf R i).1 ++ [t] → allNone (stdOf R j) = false
theorem some_way (g : Good tags R) (nd : tags.Nodup) {m : Nat} (hm : m < R.length) (h : allNone (stdOf R m) = false) : ∃ t ∈ tags, ∃ n, way tags (stdOf R m) t = some n := by
  unfold allNone at h
  rw [List.all_eq_false] at h
  obtain ⟨x, hx, hn⟩ := h
  obtain ⟨k, hk, e⟩ := List.mem_iff_getElem.mp hx
  have hl := g.std_len hm
  refine ⟨tags[k]'(by omega), List.getElem_mem _, ?_⟩
  have e1 : (stdOf R m).2[k]? = some x := by rw [List.getElem?_eq_getElem hk, e]
  have e2 : way tags (stdOf R m) (tags[k]'(by omega)) = x := by
    unfold way ixOf
    rw [idxOf_nodup nd (by omega), e1]
    rfl
  rw [e2]
  cases x with
  | none => exact absurd rfl hn
  | some n => exact ⟨n, rfl⟩
theorem not_put (g : Good tags R) (nd : tags.Nodup) (no : NoIdle tags R) {B : Nat} (hB : ∀ s ∈ R, s.1.length ≤ B) : ∀ (d m : Nat), m < R.length → B + 1 ≤ (stdOf R m).1.length + d → allNone (stdOf R m) = false → ¬ ∀ r : Word, (∀ t ∈ r, t ∈ tags) → eff tags R m r = (stdOf R m).1 ++ r
  | 0, m, hm, hd, _, _ => by
    have := hB _ (mem_of (stdOf_get hm))
    omega
  | d + 1, m, hm, hd, ha, h => by
    obtain ⟨t, ht, n, hn⟩ := some_way g nd hm ha
    have hnl := g.std_to hm (way_mem hn)
    have key : ∀ r : Word, (∀ s ∈ r, s ∈ tags) → eff tags R n r = (stdOf R m).1 ++ t :: r := fun r hr => by
      have e := h (t :: r) (fun s hs => by
        rcases List.mem_cons.mp hs with h | h
        · rw [h]
          exact ht
        · exact hr s h)
      rw [eff_cons, wayAt_std hm, hn] at e
      exact e
    have ew : (stdOf R n).1 = (stdOf R m).1 ++ [t] := by
      have e := key [] (fun _ h => nomatch h)
      have e : wordOf R n = (stdOf R m).1 ++ [t] := e
      rw [wordOf_std hnl] at e
      exact e
    refine not_put g nd no hB d n hnl (by rw [ew, List.length_append]; show B + 1 ≤ _ + 1 + d; omega) (no m n t hm ht hn ew) fun r hr => ?_
    rw [key r hr, ew, List.append_assoc]
    rfl
theorem bound_words : ∀ (R : Form), ∃ B, ∀ s ∈ R, s.1.length ≤ B
  | [] => ⟨0, fun _ h => nomatch h⟩
  | s :: R => by
    obtain ⟨B, h⟩ := bound_words R
    refine ⟨max s.1.length B, fun x hx => ?_⟩
    rcases List.mem_cons.mp hx with h' | h'
    · rw [h']
      exact Nat.le_max_left _ _
    · exact Nat.le_trans (h x h') (Nat.le_max_right _ _)
/-- a way does something else than stopping -/
theorem way_works (g : Good tags R) (nd : tags.Nodup) (no : NoIdle tags R) {i j : Nat} {t : Str} (hi : i < R.length) (ht : t ∈ tags) (h : way tags (stdOf R i) t = some j) : ¬ ∀ r : Word, (∀ s ∈ r, s ∈ tags) → eff tags R j r = (stdOf R i).1 ++ t :: r := fun hp => by
  have hj := g.std_to hi (way_mem h)
  have ew : (stdOf R j).1 = (stdOf R i).1 ++ [t] := by
    have e := hp [] (fun _ h => nomatch h)
    have e : wordOf R j = (stdOf R i).1 ++ [t] := e
    rw [wordOf_std hj] at e
    exact e
  obtain ⟨B, hB⟩ := bound_words R
  refine not_put g nd no hB (B + 1) j hj (by omega) (no i j t hi ht h ew) fun r hr => ?_
  rw [hp r hr, ew, List.append_assoc]
  rfl
/-- two standings with the same rest map -/
def Twin (tags : List Str) (R S : Form) (i j : Nat) : Prop := i < R.length ∧ j < S.length ∧ ∀ r : Word, (∀ t ∈ r, t ∈ tags) → eff tags R i r = eff tags S j r
def TwinWay (tags : List Str) (R S : Form) : Option Nat → Option Nat → Prop
  | none, none => True
  | some i, some j => Twin tags R S i j
  | _, _ => False
theorem Twin.word {i j : Nat} (h : Twin tags R S i j) : (stdOf R i).1 = (stdOf S j).1 := by
  have e := h.2.2 [] (fun _ h => nomatch h)
  have e : wordOf R i = wordOf S j := e
  rw [wordOf_std h.1, wordOf_std h.2.1] at e
  exact e
theorem Twin.oneWay (gR : Good tags R) (gS : Good tags S) (nd : tags.Nodup) (nR : NoIdle tags R) (nS : NoIdle tags S) {i j : Nat} {t : Str} (ht : t ∈ tags) (h : Twin tags R S i j) : TwinWay tags R S (way tags (stdOf R i) t) (way tags (stdOf S j) t) := by
  have ew := h.word
  have step : ∀ r : Word, (∀ s ∈ r, s ∈ tags) → eff tags R i (t :: r) = eff tags S j (t :: r) := fun r hr => h.2.2 (t :: r) (fun s hs => by
    rcases List.mem_cons.mp hs with h | h
    · rw [h]
      exact ht
    · exact hr s h)
  cases e1 : way tags (stdOf R i) t with
  | none =>
    cases e2 : way tags (stdOf S j) t with
    | none => exact trivial
    | some n =>
      refine way_works gS nd nS h.2.1 ht e2 fun r hr => ?_
      have e := step r hr
      rw [eff_cons, eff_cons, wayAt_std h.1, wayAt_std h.2.1, e1, e2] at e
      have e : wordOf R i ++ t :: r = eff tags S n r := e
      rw [wordOf_std h.1, ew] at e
      exact e.symm
  | some m =>
    cases e2 : way tags (stdOf S j) t with
    | none =>
      refine way_works gR nd nR h.1 ht e1 fun r hr => ?_
      have e := step r hr
      rw [eff_cons, eff_cons, wayAt_std h.1, wayAt_std h.2.1, e1, e2] at e
      have e : eff tags R m r = wordOf S j ++ t :: r := e
      rw [wordOf_std h.2.1, ← ew] at e
      exact e
    | some n =>
      refine ⟨gR.std_to h.1 (way_mem e1), gS.std_to h.2.1 (way_mem e2), fun r hr => ?_⟩
      have e := step r hr
      rw [eff_cons, eff_cons, wayAt_std h.1, wayAt_std h.2.1, e1, e2] at e
      exact e
theorem paired_of {α β : Type} {P : α → β → Prop} : ∀ {l : List α} {m : List β}, l.length = m.length → (∀ (k : Nat) (a : α) (b : β), l[k]? = some a → m[k]? = some b → P a b) → Paired P l m
  | [], [], _, _ => .nil
  | [], _ :: _, h, _ => by cases h
  | _ :: _, [], h, _ => by cases h
  | a :: l, b :: m, h, f => .cons (f 0 a b rfl rfl) (paired_of (by simpa using h) fun k x y hx hy => f (k + 1) x y (by simpa using hx) (by simpa using hy))
theorem Twin.ways (gR : Good tags R) (gS : Good tags S) (nd : tags.Nodup) (nR : NoIdle tags R) (nS : NoIdle tags S) {i j : Nat} (h : Twin tags R S i j) : Paired (TwinWay tags R S) (stdOf R i).2 (stdOf S j).2 := by
  have l1 := gR.std_len h.1
  have l2 := gS.std_len h.2.1
  refine paired_of (by rw [l1, l2]) fun k x y hx hy => ?_
  have hk := (List.getElem?_eq_some_iff.mp hx).1
  have e1 : way tags (stdOf R i) (tags[k]'(by omega)) = x := by
    unfold QM.way ixOf
    rw [idxOf_nodup nd (by omega), hx]
    rfl
  have e2 : way tags (stdOf S j) (tags[k]'(by omega)) = y := by
    unfold QM.way ixOf
    rw [idxOf_nodup nd (by omega), hy]
    rfl
  have := h.oneWay gR gS nd nR nS (t := tags[k]'(by omega)) (List.getElem_mem _)
  rw [e1, e2] at this
  exact this
theorem Twin.symm {i j : Nat} (h : Twin tags R S i j) : Twin tags S R j i := ⟨h.2.1, h.1, fun r hr => (h.2.2 r hr).symm⟩
theorem Twin.trans {Z : Form} {i j k : Nat} (h : Twin tags R S i j) (h' : Twin tags S Z j k) : Twin tags R Z i k := ⟨h.1, h'.2.1, fun r hr => (h.2.2 r hr).trans (h'.2.2 r hr)⟩
/-- the classes are those of the rest maps -/
theorem cls_twin (g : Good tags R) (nd : tags.Nodup) (no : NoIdle tags R) {i j : Nat} (hi : i < R.length) (hj : j < R.length) : clsOf (alike R) i = clsOf (alike R) j ↔ Twin tags R R i j := by
  constructor
  · exact fun h => ⟨hi, hj, fun r _ => (alike_stable g).eff g r i j hi hj h⟩
  · refine fun h => alike_coarse (E := Twin tags R R) (fun a b _ _ e => e.word) (fun cs r a b ha hb e => ?_) i j hi hj h
    have p := e.ways g g nd no no
    generalize (stdOf R a).2 = xs at p
    generalize (stdOf R b).2 = ys at p
    induction p with
    | nil => rfl
    | @cons x y l1 l2 h _ ih =>
      rw [List.map_cons, List.map_cons, ih]
      congr 1
      cases x with
      | none =>
        cases y with
        | none => rfl
        | some _ => exact h.elim
      | some m =>
        cases y with
        | none => exact h.elim
        | some n => exact congrArg some (r m n h.1 h.2.1 h)
section
variable (gR : Good tags R) (gS : Good tags S) (nd : tags.Nodup) (nR : NoIdle tags R) (nS : NoIdle tags S)
include gR gS nd nR nS
theorem twin_cls {a b : Nat} {a' b' : Nat} (h : Twin tags R S a a') (h' : Twin tags R S b b') : clsOf (alike R) a = clsOf (alike R) b ↔ clsOf (alike S) a' = clsOf (alike S) b' := by
  rw [cls_twin gR nd nR h.1 h'.1, cls_twin gS nd nS h.2.1 h'.2.1]
  exact ⟨fun e => (h.symm.trans e).trans h', fun e => (h.trans e).trans h'.symm⟩
theorem twin_mem {met met' : List Nat} (p : Paired (Twin tags R S) met met') {n n' : Nat} (h : Twin tags R S n n') : clsOf (alike R) n ∈ met.map (clsOf (alike R)) ↔ clsOf (alike S) n' ∈ met'.map (clsOf (alike S)) := by
  induction p with
  | nil => simp
  | cons q _ ih => rw [List.map_cons, List.map_cons, List.mem_cons, List.mem_cons, ih, twin_cls gR gS nd nR nS h q]
theorem twin_idx {met met' : List Nat} (p : Paired (Twin tags R S) met met') {n n' : Nat} (h : Twin tags R S n n') : (met.map (clsOf (alike R))).idxOf (clsOf (alike R) n) = (met'.map (clsOf (alike S))).idxOf (clsOf (alike S) n') := by
  induction p with
  | nil => rfl
  | @cons x y l1 l2 q _ ih =>
    rw [List.map_cons, List.map_cons, List.idxOf_cons, List.idxOf_cons, ih]
    have e := twin_cls gR gS nd nR nS q h
    by_cases hc : clsOf (alike R) x = clsOf (alike R) n
    · have hc' := e.mp hc
      simp [hc, hc']
    · have hc' : ¬ clsOf (alike S) y = clsOf (alike S) n' := fun z => hc (e.mpr z)
      have b1 : (clsOf (alike R) x == clsOf (alike R) n) = false := by simpa using hc
      have b2 : (clsOf (alike S) y == clsOf (alike S) n') = false := by simpa using hc'
      rw [b1, b2]
theorem twin_visit {met met' : List Nat} (p : Paired (Twin tags R S) met met') {x y : Option Nat} (h : TwinWay tags R S x y) : Paired (Twin tags R S) (visit (alike R) met x) (visit (alike S) met' y) := by
  cases x with
  | none =>
    cases y with
    | none => exact p
    | some _ => exact h.elim
  | some n =>
    cases y with
    | none => exact h.elim
    | some n' =>
      have e := twin_mem gR gS nd nR nS p h
      show Paired (Twin tags R S) (if clsOf (alike R) n ∈ met.map (clsOf (alike R)) then met else met ++ [n]) (if clsOf (alike S) n' ∈ met'.map (clsOf (alike S)) then met' else met' ++ [n'])
      by_cases hc : clsOf (alike R) n ∈ met.map (clsOf (alike R))
      · rw [if_pos hc, if_pos (e.mp hc)]
        exact p
      · rw [if_neg hc, if_neg fun z => hc (e.mpr z)]
        exact Paired.snoc p h
theorem twin_visitAll {ws ws' : Ways} (q : Paired (TwinWay tags R S) ws ws') : ∀ {met met' : List Nat}, Paired (Twin tags R S) met met' → Paired (Twin tags R S) (visitAll (alike R) met ws) (visitAll (alike S) met' ws') := by
  induction q with
  | nil => exact fun p => p
  | cons h _ ih => exact fun p => ih (twin_visit gR gS nd nR nS p h)
theorem twin_std {met met' : List Nat} (p : Paired (Twin tags R S) met met') {i j : Nat} (h : Twin tags R S i j) : newStd (alike R) met (stdOf R i) = newStd (alike S) met' (stdOf S j) := by
  unfold newStd
  rw [h.word]
  congr 1
  have q := h.ways gR gS nd nR nS
  generalize (stdOf R i).2 = xs at q
  generalize (stdOf S j).2 = ys at q
  induction q with
  | nil => rfl
  | @cons x y l1 l2 h _ ih =>
    rw [List.map_cons, List.map_cons, ih]
    congr 1
    cases x with
    | none =>
      cases y with
      | none => rfl
      | some _ => exact h.elim
    | some m =>
      cases y with
      | none => exact h.elim
      | some n => exact congrArg some (twin_idx gR gS nd nR nS p h)
theorem twin_loop : ∀ (f f' : Nat) (met met' : List Nat) (told : Form), Paired (Twin tags R S) met met' → Met R (alike R) met → Met S (alike S) met' → told.length ≤ met.length → R.length + 1 ≤ told.length + f → S.length + 1 ≤ told.length + f' → orderLoop R (alike R) f met told = orderLoop S (alike S) f' met' told
  | 0, f', met, met', told, p, M, M', hl, h1, h2 => by
    have := M.len
    omega
  | f + 1, 0, met, met', told, p, M, M', hl, h1, h2 => by
    have e := Paired.length p
    have := M'.len
    omega
  | f + 1, f' + 1, met, met', told, p, M, M', hl, h1, h2 => by
    have e := Paired.length p
    unfold orderLoop
    by_cases hlt : told.length < met.length
    · rw [if_pos hlt, if_pos (by omega)]
      have g1 : met[told.length]? = some (met.getD told.length 0) := by
        rw [List.getD_eq_getElem?_getD, List.getElem?_eq_getElem hlt]
        rfl
      obtain ⟨y, hy, ht⟩ := paired_get' p g1
      have g2 : met'.getD told.length 0 = y := by
        rw [List.getD_eq_getElem?_getD, hy]
        rfl
      rw [g2]
      generalize met.getD told.length 0 = x at ht
      have q := ht.ways gR gS nd nR nS
      have p2 := twin_visitAll gR gS nd nR nS q p
      have hs := twin_std gR gS nd nR nS p2 ht
      have M2 := M.visitAll (ws := (stdOf R x).2) fun n hn => gR.std_to ht.1 hn
      have M2' := M'.visitAll (ws := (stdOf S y).2) fun n hn => gS.std_to ht.2.1 hn
      rw [hs]
      refine twin_loop f f' _ _ _ p2 M2 M2' ?_ (by rw [List.length_append]; show _ ≤ told.length + 1 + f; omega) (by rw [List.length_append]; show _ ≤ told.length + 1 + f'; omega)
      obtain ⟨tl, ht2⟩ := visitAll_pre (alike R) (stdOf R x).2 met
      rw [ht2, List.length_append, List.length_append]
      show told.length + 1 ≤ _
      omega
    · rw [if_neg hlt, if_neg (by omega)]
theorem twin_order (h : Twin tags R S 0 0) : inOrder R (alike R) = inOrder S (alike S) := by
  refine twin_loop gR gS nd nR nS _ _ _ _ _ (.cons h .nil) ⟨by simp, fun m hm => by rw [List.mem_singleton.mp hm]; exact h.1⟩ ⟨by simp, fun m hm => by rw [List.mem_singleton.mp hm]; exact h.2.1⟩ (Nat.zero_le _) ?_ ?_
  · show _ ≤ 0 + (R.length + 1)
    omega
  · show _ ≤ 0 + (S.length + 1)
    omega
end
/-- what is alike has the same least form -/
theorem least_same {F G : Form} (gF : Good tags F) (gG : Good tags G) (nd : tags.Nodup) (h : ∀ r : Word, (∀ t ∈ r, t ∈ tags) → make tags F r = make tags G r) : least tags F = least tags G := by
  have nF : NoIdle tags (least tags F) := fun i j t hi ht hw e => least_none gF hi ht hw e
  have nG : NoIdle tags (least tags G) := fun i j t hi ht hw e => least_none gG hi ht hw e
  have e1 : inOrder (least tags F) (alike (least tags F)) = least tags F := inOrder_again (needless_good gF)
  have e2 : inOrder (least tags G) (alike (least tags G)) = least tags G := inOrder_again (needless_good gG)
  rw [← e1, ← e2]
  refine twin_order (least_good gF) (least_good gG) nd nF nG ⟨(least_good gF).pos, (least_good gG).pos, fun r hr => ?_⟩
  rw [least_eff gF hr, least_eff gG hr, ← make_eff, ← make_eff]
  exact h r hr
end
end QM
end

section
set_option linter.all false
set_option autoImplicit false
/-! Qtab: tables of rest maps up to a length tell the standings of a small least form apart. -/
namespace QM
open PySem QB L2
section
variable {tags : List Str} {R : Form}
theorem put_chain (g : Good tags R) (nd : tags.Nodup) (no : NoIdle tags R) : ∀ (k m : Nat), m < R.length → allNone (stdOf R m) = false → (∀ r : Word, (∀ t ∈ r, t ∈ tags) → r.length ≤ k → eff tags R m r = (stdOf R m).1 ++ r) →
    ∃ l : List Nat, l.Nodup ∧ l.length = k + 1 ∧ ∀ x ∈ l, x < R.length ∧ (stdOf R m).1.length ≤ (stdOf R x).1.length
  | 0, m, hm, _, _ => ⟨[m], by simp, rfl, fun x hx => by
    rw [List.mem_singleton.mp hx]
    exact ⟨hm, Nat.le_refl _⟩⟩
  | k + 1, m, hm, ha, h => by
    obtain ⟨t, ht, n, hn⟩ := some_way g nd hm ha
    have hnl := g.std_to hm (way_mem hn)
    have key : ∀ r : Word, (∀ s ∈ r, s ∈ tags) → r.length ≤ k → eff tags R n r = (stdOf R m).1 ++ t :: r := fun r hr hl => by
      have e := h (t :: r) (fun s hs => by
        rcases List.mem_cons.mp hs with h | h
        · rw [h]
          exact ht
        · exact hr s h) (by rw [List.length_cons]; omega)
      rw [eff_cons, wayAt_std hm, hn] at e
      exact e
    have ew : (stdOf R n).1 = (stdOf R m).1 ++ [t] := by
      have e := key [] (fun _ h => nomatch h) (Nat.zero_le _)
      have e : wordOf R n = (stdOf R m).1 ++ [t] := e
      rw [wordOf_std hnl] at e
      exact e
    have el : (stdOf R n).1.length = (stdOf R m).1.length + 1 := by rw [ew, List.length_append]; rfl
    obtain ⟨l, h1, h2, h3⟩ := put_chain g nd no k n hnl (no m n t hm ht hn ew) fun r hr hl => by
      rw [key r hr hl, ew, List.append_assoc]
      rfl
    refine ⟨m :: l, List.nodup_cons.mpr ⟨fun hml => ?_, h1⟩, by rw [List.length_cons, h2], fun x hx => ?_⟩
    · have := (h3 m hml).2
      omega
    · rcases List.mem_cons.mp hx with rfl | hx
      · exact ⟨hm, Nat.le_refl _⟩
      · have := h3 x hx
        exact ⟨this.1, by omega⟩
/-- a way does something else than stopping, on short words already -/
theorem way_short (g : Good tags R) (nd : tags.Nodup) (no : NoIdle tags R) {i j : Nat} {t : Str} (hi : i < R.length) (ht : t ∈ tags) (h : way tags (stdOf R i) t = some j) {N : Nat} (hN : R.length ≤ N + 1)
    (hp : ∀ r : Word, (∀ s ∈ r, s ∈ tags) → r.length ≤ N → eff tags R j r = (stdOf R i).1 ++ t :: r) : False := by
  have hj := g.std_to hi (way_mem h)
  have ew : (stdOf R j).1 = (stdOf R i).1 ++ [t] := by
    have e := hp [] (fun _ h => nomatch h) (Nat.zero_le _)
    have e : wordOf R j = (stdOf R i).1 ++ [t] := e
    rw [wordOf_std hj] at e
    exact e
  have el : (stdOf R j).1.length = (stdOf R i).1.length + 1 := by rw [ew, List.length_append]; rfl
  obtain ⟨l, h1, h2, h3⟩ := put_chain g nd no N j hj (no i j t hi ht h ew) fun r hr hl => by
    rw [hp r hr hl, ew, List.append_assoc]
    rfl
  have := nodup_le R.length (i :: l) (List.nodup_cons.mpr ⟨fun hml => by have := (h3 i hml).2; omega, h1⟩) fun x hx => by
    rcases List.mem_cons.mp hx with rfl | hx
    · exact hi
    · exact (h3 x hx).1
  rw [List.length_cons, h2] at this
  omega
/-- the same on all words up to a length -/
def Near (tags : List Str) (R : Form) (N a b : Nat) : Prop := ∀ r : Word, (∀ t ∈ r, t ∈ tags) → r.length ≤ N → eff tags R a r = eff tags R b r
theorem near_ways (g : Good tags R) (nd : tags.Nodup) (no : NoIdle tags R) {N a b : Nat} {cs : List Nat} (hN : R.length ≤ N + 1) (r : Resp R (Near tags R N) cs) (ha : a < R.length) (hb : b < R.length) (e : Near tags R (N + 1) a b) :
    (stdOf R a).2.map (Option.map (clsOf cs)) = (stdOf R b).2.map (Option.map (clsOf cs)) := by
  have ew : (stdOf R a).1 = (stdOf R b).1 := by
    have h := e [] (fun _ h => nomatch h) (Nat.zero_le _)
    have h : wordOf R a = wordOf R b := h
    rw [wordOf_std ha, wordOf_std hb] at h
    exact h
  have la := g.std_len ha
  have lb := g.std_len hb
  refine List.ext_getElem? fun k => ?_
  rw [List.getElem?_map, List.getElem?_map]
  by_cases hk : k < tags.length
  · have g1 : (stdOf R a).2[k]? = some ((stdOf R a).2[k]'(by omega)) := List.getElem?_eq_getElem (by omega)
    have g2 : (stdOf R b).2[k]? = some ((stdOf R b).2[k]'(by omega)) := List.getElem?_eq_getElem (by omega)
    have gt : tags[k]'hk ∈ tags := List.getElem_mem hk
    have wa : way tags (stdOf R a) (tags[k]'hk) = (stdOf R a).2[k]'(by omega) := by
      unfold way ixOf
      rw [idxOf_nodup nd hk, g1]
      rfl
    have wb : way tags (stdOf R b) (tags[k]'hk) = (stdOf R b).2[k]'(by omega) := by
      unfold way ixOf
      rw [idxOf_nodup nd hk, g2]
      rfl
    rw [g1, g2, ← wa, ← wb]
    generalize tags[k]'hk = t at gt
    have step : ∀ r : Word, (∀ s ∈ r, s ∈ tags) → r.length ≤ N → eff tags R a (t :: r) = eff tags R b (t :: r) := fun r hr hl => e (t :: r) (fun s hs => by
      rcases List.mem_cons.mp hs with h | h
      · rw [h]
        exact gt
      · exact hr s h) (by rw [List.length_cons]; omega)
    cases ea : way tags (stdOf R a) t with
    | none =>
      cases eb : way tags (stdOf R b) t with
      | none => rfl
      | some m =>
        exfalso
        refine way_short g nd no hb gt eb hN fun r hr hl => ?_
        have h := step r hr hl
        rw [eff_cons, eff_cons, wayAt_std ha, wayAt_std hb, ea, eb] at h
        have h : wordOf R a ++ t :: r = eff tags R m r := h
        rw [← h, wordOf_std ha, ew]
    | some n =>
      have hn := g.std_to ha (way_mem ea)
      cases eb : way tags (stdOf R b) t with
      | none =>
        exfalso
        refine way_short g nd no ha gt ea hN fun r hr hl => ?_
        have h := step r hr hl
        rw [eff_cons, eff_cons, wayAt_std ha, wayAt_std hb, ea, eb] at h
        have h : eff tags R n r = wordOf R b ++ t :: r := h
        rw [h, wordOf_std hb, ew]
      | some m =>
        have hm := g.std_to hb (way_mem eb)
        have : clsOf cs n = clsOf cs m := r n m hn hm fun q hq hl => by
          have h := step q hq hl
          rw [eff_cons, eff_cons, wayAt_std ha, wayAt_std hb, ea, eb] at h
          exact h
        show some (some (clsOf cs n)) = some (some (clsOf cs m))
        rw [this]
  · rw [List.getElem?_eq_none (by omega), List.getElem?_eq_none (by omega)]
theorem near_loop (g : Good tags R) (nd : tags.Nodup) (no : NoIdle tags R) : ∀ (f many N : Nat) (cs : List Nat), R.length ≤ N + 1 → cs.length = R.length → Resp R (Near tags R N) cs → Resp R (Near tags R (N + f)) (alikeLoop R f many cs)
  | 0, _, _, _, _, _, r => r
  | f + 1, many, N, cs, hN, hl, r => by
    unfold alikeLoop
    by_cases hm : many ≤ maxOf cs
    · rw [if_pos hm]
      have := near_loop g nd no f (maxOf cs + 1) (N + 1) (part cs R) (by omega) (part_len hl) fun a b ha hb e => by
        refine (numb_inj (partKeys_get hl ha) (partKeys_get hl hb)).mpr ?_
        have e1 := r a b ha hb fun q hq h => e q hq (by omega)
        have e2 : (stdOf R a).2.map (wayNum cs) = (stdOf R b).2.map (wayNum cs) := map_up2 (P := fun _ => True) (fun _ _ => trivial) (fun _ _ => trivial) (fun x y _ _ h => wayNum_of h) (near_ways g nd no hN r ha hb e)
        unfold partKey
        show NestedKey.tup [.num (clsOf cs a : Int), .tup ((stdOf R a).2.map (wayNum cs))] = .tup [.num (clsOf cs b : Int), .tup ((stdOf R b).2.map (wayNum cs))]
        rw [e1, e2]
      rw [show N + (f + 1) = N + 1 + f by omega]
      exact this
    · rw [if_neg hm]
      exact fun a b ha hb e => r a b ha hb fun q hq h => e q hq (by omega)
theorem near_alike (g : Good tags R) (nd : tags.Nodup) (no : NoIdle tags R) {N : Nat} (hN : 2 * R.length ≤ N) {a b : Nat} (ha : a < R.length) (hb : b < R.length) (e : Near tags R N a b) : clsOf (alike R) a = clsOf (alike R) b := by
  have := near_loop g nd no (R.length + 1) 0 (R.length - 1) (QD.numb (wordKeys R)) (by omega) (by rw [QD.numb_len]; exact List.length_map _) fun a b ha hb e => by
    have gi : (wordKeys R)[a]? = some (wordKey (stdOf R a)) := by
      unfold wordKeys
      rw [List.getElem?_map, stdOf_get ha]
      rfl
    have gj : (wordKeys R)[b]? = some (wordKey (stdOf R b)) := by
      unfold wordKeys
      rw [List.getElem?_map, stdOf_get hb]
      rfl
    refine (numb_inj gi gj).mpr ?_
    unfold wordKey
    have h := e [] (fun _ h => nomatch h) (Nat.zero_le _)
    have h : wordOf R a = wordOf R b := h
    rw [wordOf_std ha, wordOf_std hb] at h
    rw [h]
  exact this a b ha hb fun q hq h => e q hq (by omega)
end
theorem least_apart {tags : List Str} {F : Form} (g : Good tags F) : ∀ i j, i < (least tags F).length → j < (least tags F).length → clsOf (alike (least tags F)) i = clsOf (alike (least tags F)) j → i = j := by
  have g' := needless_good g
  have o0 : OrdOf (needless tags F) (alike (needless tags F)) [0] [] := ⟨⟨by simp, fun m hm => by rw [List.mem_singleton.mp hm]; exact g'.pos⟩, rfl, by simp, fun i hi => absurd hi (Nat.not_lt_zero _), fun i hi => absurd hi (Nat.not_lt_zero _)⟩
  obtain ⟨o, hl⟩ := orderMet_ord g' ((needless tags F).length + 1) [0] [] o0 (by simp)
  exact ord_apart g' o hl
/-- all that the law's own least form wants of the form that it looks at -/
structure Tab (tags : List Str) (R : Form) (W : List Word) (N : Nat) : Prop where
  good : Good tags R
  again : inOrder R (alike R) = R
  inj : ∀ i j, i < R.length → j < R.length → clsOf (alike R) i = clsOf (alike R) j → i = j
  sep : ∀ i j, i < R.length → j < R.length → W.map (eff tags R i) = W.map (eff tags R j) → i = j
  wrk : ∀ i j t, i < R.length → t ∈ tags → way tags (stdOf R i) t = some j → W.map (eff tags R j) ≠ W.map fun r => (stdOf R i).1 ++ t :: r
theorem map_at {α β : Type} {f h : α → β} {W : List α} (e : W.map f = W.map h) {x : α} (hx : x ∈ W) : f x = h x := by
  induction W with
  | nil => cases hx
  | cons y W ih =>
    rw [List.map_cons, List.map_cons] at e
    injection e with e1 e2
    rcases List.mem_cons.mp hx with rfl | hx
    · exact e1
    · exact ih e2 hx
theorem tab_of {tags : List Str} {F : Form} {W : List Word} {N : Nat} (g : Good tags F) (nd : tags.Nodup) (hN : 2 * (least tags F).length ≤ N) (all : ∀ r : Word, (∀ t ∈ r, t ∈ tags) → r.length ≤ N → r ∈ W) : Tab tags (least tags F) W N := by
  have no : NoIdle tags (least tags F) := fun i j t hi ht hw e => least_none g hi ht hw e
  have gR := least_good g
  refine ⟨gR, inOrder_again (needless_good g), least_apart g, fun i j hi hj e => ?_, fun i j t hi ht hw e => ?_⟩
  · exact least_apart g i j hi hj (near_alike gR nd no hN hi hj fun r hr hl => map_at e (all r hr hl))
  · exact way_short gR nd no hi ht hw (N := N) (by have := gR.pos; omega) fun r hr hl => map_at e (all r hr hl)
end QM
end

section
set_option linter.all false
set_option autoImplicit false
/-! Qpart: two forms beside each other; the search in width for a parting word. -/
namespace QM
open PySem QB L2
section
variable {tags : List Str} {R A B : Form}
/-! ### two forms beside each other -/
def Works (tags : List Str) (R : Form) (N : Nat) : Prop := ∀ i j t, i < R.length → t ∈ tags → way tags (stdOf R i) t = some j → ¬ ∀ r : Word, (∀ s ∈ r, s ∈ tags) → r.length ≤ N → eff tags R j r = (stdOf R i).1 ++ t :: r
theorem Works.mono {N M : Nat} (h : Works tags R N) (l : N ≤ M) : Works tags R M := fun i j t hi ht hw hp => h i j t hi ht hw fun r hr hl => hp r hr (by omega)
theorem near_ways2 (g : Good tags R) (nd : tags.Nodup) {N a b : Nat} {cs : List Nat} (no : Works tags R N) (r : Resp R (Near tags R N) cs) (ha : a < R.length) (hb : b < R.length) (e : Near tags R (N + 1) a b) :
    (stdOf R a).2.map (Option.map (clsOf cs)) = (stdOf R b).2.map (Option.map (clsOf cs)) := by
  have ew : (stdOf R a).1 = (stdOf R b).1 := by
    have h := e [] (fun _ h => nomatch h) (Nat.zero_le _)
    have h : wordOf R a = wordOf R b := h
    rw [wordOf_std ha, wordOf_std hb] at h
    exact h
  have la := g.std_len ha
  have lb := g.std_len hb
  refine List.ext_getElem? fun k => ?_
  rw [List.getElem?_map, List.getElem?_map]
  by_cases hk : k < tags.length
  · have g1 : (stdOf R a).2[k]? = some ((stdOf R a).2[k]'(by omega)) := List.getElem?_eq_getElem (by omega)
    have g2 : (stdOf R b).2[k]? = some ((stdOf R b).2[k]'(by omega)) := List.getElem?_eq_getElem (by omega)
    have gt : tags[k]'hk ∈ tags := List.getElem_mem hk
    have wa : way tags (stdOf R a) (tags[k]'hk) = (stdOf R a).2[k]'(by omega) := by
      unfold way ixOf
      rw [idxOf_nodup nd hk, g1]
      rfl
    have wb : way tags (stdOf R b) (tags[k]'hk) = (stdOf R b).2[k]'(by omega) := by
      unfold way ixOf
      rw [idxOf_nodup nd hk, g2]
      rfl
    rw [g1, g2, ← wa, ← wb]
    generalize tags[k]'hk = t at gt
    have step : ∀ r : Word, (∀ s ∈ r, s ∈ tags) → r.length ≤ N → eff tags R a (t :: r) = eff tags R b (t :: r) := fun r hr hl => e (t :: r) (fun s hs => by
      rcases List.mem_cons.mp hs with h | h
      · rw [h]
        exact gt
      · exact hr s h) (by rw [List.length_cons]; omega)
    cases ea : way tags (stdOf R a) t with
    | none =>
      cases eb : way tags (stdOf R b) t with
      | none => rfl
      | some m =>
        exfalso
        refine no b m t hb gt eb fun r hr hl => ?_
        have h := step r hr hl
        rw [eff_cons, eff_cons, wayAt_std ha, wayAt_std hb, ea, eb] at h
        have h : wordOf R a ++ t :: r = eff tags R m r := h
        rw [← h, wordOf_std ha, ew]
    | some n =>
      have hn := g.std_to ha (way_mem ea)
      cases eb : way tags (stdOf R b) t with
      | none =>
        exfalso
        refine no a n t ha gt ea fun r hr hl => ?_
        have h := step r hr hl
        rw [eff_cons, eff_cons, wayAt_std ha, wayAt_std hb, ea, eb] at h
        have h : eff tags R n r = wordOf R b ++ t :: r := h
        rw [h, wordOf_std hb, ew]
      | some m =>
        have hm := g.std_to hb (way_mem eb)
        have : clsOf cs n = clsOf cs m := r n m hn hm fun q hq hl => by
          have h := step q hq hl
          rw [eff_cons, eff_cons, wayAt_std ha, wayAt_std hb, ea, eb] at h
          exact h
        show some (some (clsOf cs n)) = some (some (clsOf cs m))
        rw [this]
  · rw [List.getElem?_eq_none (by omega), List.getElem?_eq_none (by omega)]
theorem near_loop2 (g : Good tags R) (nd : tags.Nodup) : ∀ (f many N : Nat) (cs : List Nat), Works tags R N → cs.length = R.length → Resp R (Near tags R N) cs → Resp R (Near tags R (N + f)) (alikeLoop R f many cs)
  | 0, _, _, _, _, _, r => r
  | f + 1, many, N, cs, no, hl, r => by
    unfold alikeLoop
    by_cases hm : many ≤ maxOf cs
    · rw [if_pos hm]
      have := near_loop2 g nd f (maxOf cs + 1) (N + 1) (part cs R) (no.mono (by omega)) (part_len hl) fun a b ha hb e => by
        refine (numb_inj (partKeys_get hl ha) (partKeys_get hl hb)).mpr ?_
        have e1 := r a b ha hb fun q hq h => e q hq (by omega)
        have e2 : (stdOf R a).2.map (wayNum cs) = (stdOf R b).2.map (wayNum cs) := map_up2 (P := fun _ => True) (fun _ _ => trivial) (fun _ _ => trivial) (fun x y _ _ h => wayNum_of h) (near_ways2 g nd no r ha hb e)
        unfold partKey
        show NestedKey.tup [.num (clsOf cs a : Int), .tup ((stdOf R a).2.map (wayNum cs))] = .tup [.num (clsOf cs b : Int), .tup ((stdOf R b).2.map (wayNum cs))]
        rw [e1, e2]
      rw [show N + (f + 1) = N + 1 + f by omega]
      exact this
    · rw [if_neg hm]
      exact fun a b ha hb e => r a b ha hb fun q hq h => e q hq (by omega)
theorem near_alike2 (g : Good tags R) (nd : tags.Nodup) {M N : Nat} (no : Works tags R M) (hN : M + (R.length + 1) ≤ N) {a b : Nat} (ha : a < R.length) (hb : b < R.length) (e : Near tags R N a b) : ∀ r : Word, eff tags R a r = eff tags R b r := by
  have := near_loop2 g nd (R.length + 1) 0 M (QD.numb (wordKeys R)) no (by rw [QD.numb_len]; exact List.length_map _) fun a b ha hb e => by
    have gi : (wordKeys R)[a]? = some (wordKey (stdOf R a)) := by
      unfold wordKeys
      rw [List.getElem?_map, stdOf_get ha]
      rfl
    have gj : (wordKeys R)[b]? = some (wordKey (stdOf R b)) := by
      unfold wordKeys
      rw [List.getElem?_map, stdOf_get hb]
      rfl
    refine (numb_inj gi gj).mpr ?_
    unfold wordKey
    have h := e [] (fun _ h => nomatch h) (Nat.zero_le _)
    have h : wordOf R a = wordOf R b := h
    rw [wordOf_std ha, wordOf_std hb] at h
    rw [h]
  have hc : clsOf (alike R) a = clsOf (alike R) b := this a b ha hb fun q hq h => e q hq (by omega)
  exact fun r => (alike_stable g).eff g r a b ha hb hc
/-- both in one form -/
def both (A B : Form) : Form := A ++ B.map fun s => (s.1, shift A.length s.2)
theorem both_len : (both A B).length = A.length + B.length := by
  unfold both
  rw [List.length_append, List.length_map]
theorem both_fst {i : Nat} (h : i < A.length) : stdOf (both A B) i = stdOf A i := by
  have e2 : (both A B)[i]? = some (stdOf A i) := by
    unfold both
    rw [List.getElem?_append_left h, stdOf_get h]
  have e3 : stdOf (both A B) i = ((both A B)[i]?).getD ([], []) := List.getD_eq_getElem?_getD
  rw [e3, e2]
  rfl
theorem both_snd {j : Nat} (h : j < B.length) : stdOf (both A B) (A.length + j) = ((stdOf B j).1, shift A.length (stdOf B j).2) := by
  have e2 : (both A B)[A.length + j]? = some ((stdOf B j).1, shift A.length (stdOf B j).2) := by
    unfold both
    rw [List.getElem?_append_right (by omega), Nat.add_sub_cancel_left, List.getElem?_map, stdOf_get h]
    rfl
  have e3 : stdOf (both A B) (A.length + j) = ((both A B)[A.length + j]?).getD ([], []) := List.getD_eq_getElem?_getD
  rw [e3, e2]
  rfl
theorem both_good (gA : Good tags A) (gB : Good tags B) (hs : A.length + B.length ≤ 5000) : Good tags (both A B) := by
  refine ⟨by rw [both_len]; have := gA.pos; omega, fun s hs => ?_, fun s hs n hn => ?_, by rw [both_len]; omega⟩
  · unfold both at hs
    rcases List.mem_append.mp hs with h | h
    · exact gA.len s h
    · obtain ⟨s', h', rfl⟩ := List.mem_map.mp h
      show (shift A.length s'.2).length = _
      rw [shift_len]
      exact gB.len s' h'
  · rw [both_len]
    unfold both at hs
    rcases List.mem_append.mp hs with h | h
    · have := gA.to s h n hn
      omega
    · obtain ⟨s', h', rfl⟩ := List.mem_map.mp h
      have hn : some n ∈ shift A.length s'.2 := hn
      unfold shift at hn
      obtain ⟨w, hw, e⟩ := List.mem_map.mp hn
      cases w with
      | none => cases e
      | some m =>
        have e : m + A.length = n := Option.some.inj e
        have := gB.to s' h' m hw
        omega
theorem eff_both_fst (gA : Good tags A) : ∀ (u : Word) (i : Nat), i < A.length → eff tags (both A B) i u = eff tags A i u
  | [], i, h => by
    show wordOf _ _ = wordOf _ _
    rw [wordOf_std (by rw [both_len]; omega), both_fst h, wordOf_std h]
  | t :: u, i, h => by
    have hl : i < (both A B).length := by rw [both_len]; omega
    rw [eff_cons, eff_cons, wayAt_std hl, both_fst h, wayAt_std h]
    cases e : way tags (stdOf A i) t with
    | none =>
      show wordOf _ _ ++ _ = wordOf _ _ ++ _
      rw [wordOf_std hl, both_fst h, wordOf_std h]
    | some m => exact eff_both_fst gA u m (gA.std_to h (way_mem e))
theorem eff_both_snd (gB : Good tags B) : ∀ (u : Word) (j : Nat), j < B.length → eff tags (both A B) (A.length + j) u = eff tags B j u
  | [], j, h => by
    show wordOf _ _ = wordOf _ _
    rw [wordOf_std (by rw [both_len]; omega), both_snd h, wordOf_std h]
  | t :: u, j, h => by
    have hl : A.length + j < (both A B).length := by rw [both_len]; omega
    rw [eff_cons, eff_cons, wayAt_std hl, both_snd h, way_shift, wayAt_std h]
    cases e : way tags (stdOf B j) t with
    | none =>
      show wordOf _ _ ++ _ = wordOf _ _ ++ _
      rw [wordOf_std hl, both_snd h, wordOf_std h]
    | some m =>
      have hm := gB.std_to h (way_mem e)
      show eff tags (both A B) (m + A.length) u = eff tags B m u
      rw [Nat.add_comm]
      exact eff_both_snd gB u m hm
theorem works_of (g : Good tags R) (nd : tags.Nodup) (no : NoIdle tags R) {N : Nat} (hN : R.length ≤ N + 1) : Works tags R N := fun i j t hi ht hw hp => way_short g nd no hi ht hw hN hp
theorem both_works {N : Nat} (gA : Good tags A) (gB : Good tags B) (wA : Works tags A N) (wB : Works tags B N) : Works tags (both A B) N := fun i j t hi ht hw hp => by
  rw [both_len] at hi
  rcases Nat.lt_or_ge i A.length with h | h
  · rw [both_fst h] at hw hp
    have hj := gA.std_to h (way_mem hw)
    exact wA i j t h ht hw fun r hr hl => by rw [← eff_both_fst (B := B) gA r j hj]; exact hp r hr hl
  · obtain ⟨k, rfl⟩ : ∃ k, i = A.length + k := ⟨i - A.length, by omega⟩
    have hk : k < B.length := by omega
    rw [both_snd hk] at hw hp
    rw [way_shift] at hw
    cases e : way tags (stdOf B k) t with
    | none =>
      rw [e] at hw
      cases hw
    | some m =>
      rw [e] at hw
      have hm := gB.std_to hk (way_mem e)
      have hj : m + A.length = j := Option.some.inj hw
      subst hj
      refine wB k m t hk ht e fun r hr hl => ?_
      rw [← eff_both_snd (A := A) gB r m hm, Nat.add_comm]
      exact hp r hr hl
/-- two least forms that make the same of all words up to a length are alike -/
theorem same_short {F G : Form} {n N : Nat} (gF : Good tags F) (gG : Good tags G) (nd : tags.Nodup) (lF : (least tags F).length ≤ n) (lG : (least tags G).length ≤ n) (hn : 1 ≤ n) (hn2 : n ≤ 1000) (hN : 3 * n ≤ N)
    (h : ∀ r : Word, (∀ t ∈ r, t ∈ tags) → r.length ≤ N → make tags (least tags F) r = make tags (least tags G) r) : ∀ r : Word, make tags (least tags F) r = make tags (least tags G) r := by
  have nF : NoIdle tags (least tags F) := fun i j t hi ht hw e => least_none gF hi ht hw e
  have nG : NoIdle tags (least tags G) := fun i j t hi ht hw e => least_none gG hi ht hw e
  have gA := least_good gF
  have gB := least_good gG
  generalize least tags F = A at *
  generalize least tags G = B at *
  have wA := works_of gA nd nF (N := n - 1) (by omega)
  have wB := works_of gB nd nG (N := n - 1) (by omega)
  have pA := gA.pos
  have pB := gB.pos
  have e := near_alike2 (both_good gA gB (by omega)) nd (both_works gA gB wA wB) (N := N) (by rw [both_len]; omega) (a := 0) (b := A.length + 0) (by rw [both_len]; omega) (by rw [both_len]; omega) fun r hr hl => by
    rw [eff_both_fst gA r 0 pA, eff_both_snd gB r 0 pB, ← make_eff, ← make_eff]
    exact h r hr hl
  intro r
  have := e r
  rw [eff_both_fst gA r 0 pA, eff_both_snd gB r 0 pB, ← make_eff, ← make_eff] at this
  exact this
end
end QM
end

section
set_option linter.all false
set_option autoImplicit false
/-! Qpart2: the rank of a word among all words; what a search in width has seen. -/
namespace QM
open PySem QB L2
section
variable {tags : List Str} {A B : Form}
def rk (tags : List Str) (u : Word) : Nat := u.foldl (fun r t => tags.length * r + ixOf tags t + 1) 0
theorem rk_snoc {u : Word} {t : Str} : rk tags (u ++ [t]) = tags.length * rk tags u + ixOf tags t + 1 := by
  unfold rk
  rw [List.foldl_append]
  rfl
theorem ix_lt {t : Str} (h : t ∈ tags) : ixOf tags t < tags.length := List.idxOf_lt_length_of_mem h
theorem ix_inj {t s : Str} (ht : t ∈ tags) (hs : s ∈ tags) (h : ixOf tags t = ixOf tags s) : t = s := by
  have e1 : tags[ixOf tags t]? = some t := by
    rw [List.getElem?_eq_getElem (ix_lt ht)]
    exact congrArg some (List.getElem_idxOf (ix_lt ht))
  have e2 : tags[ixOf tags s]? = some s := by
    rw [List.getElem?_eq_getElem (ix_lt hs)]
    exact congrArg some (List.getElem_idxOf (ix_lt hs))
  rw [h, e2] at e1
  exact (Option.some.inj e1).symm
theorem rk_lt {u v : Word} {t s : Str} (h : rk tags u < rk tags v) (ht : t ∈ tags) : rk tags (u ++ [t]) < rk tags (v ++ [s]) := by
  rw [rk_snoc, rk_snoc]
  have h1 := ix_lt ht
  have h2 : tags.length * (rk tags u + 1) ≤ tags.length * rk tags v := Nat.mul_le_mul_left _ h
  rw [Nat.mul_add] at h2
  omega
theorem rk_le {u v : Word} {t : Str} (h : rk tags u ≤ rk tags v) : rk tags (u ++ [t]) ≤ rk tags (v ++ [t]) := by
  rw [rk_snoc, rk_snoc]
  have h2 : tags.length * rk tags u ≤ tags.length * rk tags v := Nat.mul_le_mul_left _ h
  omega
theorem word_end (u : Word) : u = [] ∨ ∃ v t, u = v ++ [t] := by
  induction u with
  | nil => exact .inl rfl
  | cons x u ih =>
    refine .inr ?_
    rcases ih with rfl | ⟨v, t, rfl⟩
    · exact ⟨[], x, rfl⟩
    · exact ⟨x :: v, t, rfl⟩
theorem rk_inj : ∀ (n : Nat) (u v : Word), u.length ≤ n → (∀ t ∈ u, t ∈ tags) → (∀ t ∈ v, t ∈ tags) → rk tags u = rk tags v → u = v := by
  intro n
  induction n with
  | zero =>
    intro u v hn hu hv h
    have : u = [] := List.length_eq_zero_iff.mp (by omega)
    subst this
    rcases word_end v with rfl | ⟨v', s, rfl⟩
    · rfl
    · rw [rk_snoc] at h
      have h : 0 = _ := h
      omega
  | succ n ih =>
    intro u v hn hu hv h
    rcases word_end u with rfl | ⟨u', t, rfl⟩
    · rcases word_end v with rfl | ⟨v', s, rfl⟩
      · rfl
      · rw [rk_snoc] at h
        have h : 0 = _ := h
        omega
    · rcases word_end v with rfl | ⟨v', s, rfl⟩
      · rw [rk_snoc] at h
        have h : _ = 0 := h
        omega
      · have ht : t ∈ tags := hu t (by simp)
        have hs : s ∈ tags := hv s (by simp)
        have e : rk tags u' = rk tags v' := by
          rcases Nat.lt_trichotomy (rk tags u') (rk tags v') with q | q | q
          · have := rk_lt (s := s) q ht
            omega
          · exact q
          · have := rk_lt (s := t) q hs
            omega
        have e2 := ih u' v' (by rw [List.length_append] at hn; have : [t].length = 1 := rfl; omega) (fun x hx => hu x (List.mem_append_left _ hx)) (fun x hx => hv x (List.mem_append_left _ hx)) e
        rw [rk_snoc, rk_snoc, e] at h
        have := ix_inj ht hs (by omega)
        rw [e2, this]
theorem rk_len : ∀ (n : Nat) (u v : Word), u.length = n → (∀ t ∈ u, t ∈ tags) → u.length < v.length → rk tags u < rk tags v := by
  intro n
  induction n with
  | zero =>
    intro u v hn hu h
    have : u = [] := List.length_eq_zero_iff.mp hn
    subst this
    rcases word_end v with rfl | ⟨v', s, rfl⟩
    · exact absurd h (Nat.lt_irrefl _)
    · rw [rk_snoc]
      show 0 < _
      omega
  | succ n ih =>
    intro u v hn hu h
    rcases word_end u with rfl | ⟨u', t, rfl⟩
    · cases hn
    · rcases word_end v with rfl | ⟨v', s, rfl⟩
      · exact absurd h (Nat.not_lt_zero _)
      · rw [List.length_append, List.length_append] at h
        rw [List.length_append] at hn
        have l1 : [t].length = 1 := rfl
        have l2 : [s].length = 1 := rfl
        exact rk_lt (ih u' v' (by omega) (fun x hx => hu x (List.mem_append_left _ hx)) (by omega)) (hu t (by simp))
/-! pairs of standings -/
def pairOf (tags : List Str) (A B : Form) (u : Word) : Option Nat × Option Nat := (leads tags A 0 u, leads tags B 0 u)
theorem leads_app : ∀ (u : Word) (i : Nat) (t : Str), leads tags A i (u ++ [t]) = (leads tags A i u).bind fun j => wayAt tags A j t
  | [], i, t => by
    show (wayAt tags A i t).bind (fun b => leads tags A b []) = wayAt tags A i t
    cases wayAt tags A i t <;> rfl
  | s :: u, i, t => by
    show (wayAt tags A i s).bind (fun b => leads tags A b (u ++ [t])) = ((wayAt tags A i s).bind fun b => leads tags A b u).bind _
    cases wayAt tags A i s with
    | none => rfl
    | some b => exact leads_app u b t
theorem eff_none : ∀ (u : Word) (i : Nat) (r : Word), leads tags A i u = none → eff tags A i (u ++ r) = eff tags A i u ++ r
  | [], i, r, h => by cases h
  | t :: u, i, r, h => by
    show eff tags A i (t :: (u ++ r)) = eff tags A i (t :: u) ++ r
    rw [eff_cons, eff_cons]
    have h : (wayAt tags A i t).bind (fun b => leads tags A b u) = none := h
    cases e : wayAt tags A i t with
    | none => simp
    | some b =>
      rw [e] at h
      exact eff_none u b r h
theorem make_some {u : Word} {i : Nat} (h : leads tags A 0 u = some i) (r : Word) : make tags A (u ++ r) = eff tags A i r := by
  rw [make_eff]
  exact leads_eff u r h
theorem make_lead {u : Word} {i : Nat} (h : leads tags A 0 u = some i) : make tags A u = wordOf A i := by
  have := make_some h []
  rw [List.append_nil] at this
  exact this
theorem make_none {u : Word} (h : leads tags A 0 u = none) (r : Word) : make tags A (u ++ r) = make tags A u ++ r := by
  rw [make_eff, make_eff]
  exact eff_none u 0 r h
theorem pair_snoc {u v : Word} {t : Str} (h : pairOf tags A B u = pairOf tags A B v) : pairOf tags A B (u ++ [t]) = pairOf tags A B (v ++ [t]) := by
  have h1 : leads tags A 0 u = leads tags A 0 v := congrArg Prod.fst h
  have h2 : leads tags B 0 u = leads tags B 0 v := congrArg Prod.snd h
  unfold pairOf
  rw [leads_app, leads_app, leads_app, leads_app, h1, h2]
theorem same_snoc {u v : Word} {t : Str} (h : pairOf tags A B u = pairOf tags A B v) (eu : make tags A u = make tags B u) (ev : make tags A v = make tags B v) (nn : pairOf tags A B v ≠ (none, none)) (e : make tags A (v ++ [t]) = make tags B (v ++ [t])) : make tags A (u ++ [t]) = make tags B (u ++ [t]) := by
  have h1 : leads tags A 0 u = leads tags A 0 v := congrArg Prod.fst h
  have h2 : leads tags B 0 u = leads tags B 0 v := congrArg Prod.snd h
  cases ha : leads tags A 0 v with
  | none =>
    cases hb : leads tags B 0 v with
    | none =>
      refine absurd ?_ nn
      unfold pairOf
      rw [ha, hb]
    | some j =>
      rw [ha] at h1
      rw [hb] at h2
      rw [make_none ha, make_some hb, ev, make_lead hb] at e
      rw [make_none h1, make_some h2, eu, make_lead h2, e]
  | some i =>
    rw [ha] at h1
    cases hb : leads tags B 0 v with
    | none =>
      rw [hb] at h2
      rw [make_some ha, make_none hb, ← ev, make_lead ha] at e
      rw [make_some h1, make_none h2, ← eu, make_lead h1, e]
    | some j =>
      rw [hb] at h2
      rw [make_some ha, make_some hb] at e
      rw [make_some h1, make_some h2, e]
theorem same_nn {u : Word} {t : Str} (h : pairOf tags A B u = (none, none)) (eu : make tags A u = make tags B u) : make tags A (u ++ [t]) = make tags B (u ++ [t]) ∧ pairOf tags A B (u ++ [t]) = (none, none) := by
  have h1 : leads tags A 0 u = none := congrArg Prod.fst h
  have h2 : leads tags B 0 u = none := congrArg Prod.snd h
  refine ⟨by rw [make_none h1, make_none h2, eu], ?_⟩
  unfold pairOf
  rw [leads_app, leads_app, h1, h2]
  rfl
/-! what has been seen: all words of a rank below b -/
structure Seen (tags : List Str) (A B : Form) (ps : List Word) (b : Nat) : Prop where
  inT : ∀ p ∈ ps, ∀ t ∈ p, t ∈ tags
  inc : ps.Pairwise fun p q => rk tags p < rk tags q
  lt : ∀ p ∈ ps, rk tags p < b
  nn : ∀ p ∈ ps, pairOf tags A B p ≠ (none, none)
  nd : (ps.map (pairOf tags A B)).Nodup
  all : ∀ u : Word, (∀ t ∈ u, t ∈ tags) → rk tags u < b → make tags A u = make tags B u ∧ (pairOf tags A B u = (none, none) ∨ ∃ p ∈ ps, pairOf tags A B p = pairOf tags A B u ∧ rk tags p ≤ rk tags u)
theorem Seen.start (h : make tags A [] = make tags B []) : Seen tags A B [[]] 1 := by
  refine ⟨fun p hp => ?_, by simp, fun p hp => ?_, fun p hp => ?_, by simp, fun u hu hr => ?_⟩
  · rw [List.mem_singleton.mp hp]
    exact fun _ h => nomatch h
  · rw [List.mem_singleton.mp hp]
    exact Nat.zero_lt_one
  · rw [List.mem_singleton.mp hp]
    exact fun h => nomatch h
  · have e : u = [] := (rk_inj 0 [] u (Nat.le_refl _) (fun _ h => nomatch h) hu (by show 0 = _; omega)).symm
    subst e
    exact ⟨h, .inr ⟨[], List.mem_singleton.mpr rfl, rfl, Nat.le_refl _⟩⟩
theorem Seen.one {ps : List Word} {b : Nat} (S : Seen tags A B ps b) {w : Word} (hw : ∀ t ∈ w, t ∈ tags) (hb : rk tags w = b) (e : make tags A w = make tags B w) (h : pairOf tags A B w = (none, none) ∨ pairOf tags A B w ∈ ps.map (pairOf tags A B)) : Seen tags A B ps (b + 1) := by
  refine ⟨S.inT, S.inc, fun p hp => Nat.lt_succ_of_lt (S.lt p hp), S.nn, S.nd, fun u hu hr => ?_⟩
  rcases Nat.lt_or_ge (rk tags u) b with q | q
  · exact S.all u hu q
  · have eu : u = w := rk_inj _ u w (Nat.le_refl _) hu hw (by omega)
    subst eu
    refine ⟨e, ?_⟩
    rcases h with h | h
    · exact .inl h
    · obtain ⟨p, hp, hq⟩ := List.mem_map.mp h
      exact .inr ⟨p, hp, hq, by have := S.lt p hp; omega⟩
theorem Seen.add {ps : List Word} {b : Nat} (S : Seen tags A B ps b) {w : Word} (hw : ∀ t ∈ w, t ∈ tags) (hb : rk tags w = b) (e : make tags A w = make tags B w) (h1 : pairOf tags A B w ≠ (none, none)) (h2 : ¬ pairOf tags A B w ∈ ps.map (pairOf tags A B)) : Seen tags A B (ps ++ [w]) (b + 1) := by
  refine ⟨fun p hp => ?_, ?_, fun p hp => ?_, fun p hp => ?_, ?_, fun u hu hr => ?_⟩
  · rcases List.mem_append.mp hp with h | h
    · exact S.inT p h
    · rw [List.mem_singleton.mp h]
      exact hw
  · rw [List.pairwise_append]
    exact ⟨S.inc, by simp, fun p hp q hq => by rw [List.mem_singleton.mp hq, hb]; exact S.lt p hp⟩
  · rcases List.mem_append.mp hp with h | h
    · exact Nat.lt_succ_of_lt (S.lt p h)
    · rw [List.mem_singleton.mp h]
      omega
  · rcases List.mem_append.mp hp with h | h
    · exact S.nn p h
    · rw [List.mem_singleton.mp h]
      exact h1
  · rw [List.map_append, List.nodup_append]
    exact ⟨S.nd, by simp, fun x hx y hy => by
      have hy : y = pairOf tags A B w := by simpa using hy
      rw [hy]
      exact fun z => h2 (z ▸ hx)⟩
  · rcases Nat.lt_or_ge (rk tags u) b with q | q
    · obtain ⟨q1, q2⟩ := S.all u hu q
      refine ⟨q1, ?_⟩
      rcases q2 with q2 | ⟨p, hp, q3⟩
      · exact .inl q2
      · exact .inr ⟨p, List.mem_append_left _ hp, q3⟩
    · have eu : u = w := rk_inj _ u w (Nat.le_refl _) hu hw (by omega)
      subst eu
      exact ⟨e, .inr ⟨u, by simp, rfl, Nat.le_refl _⟩⟩
/-- the words between two rows of the search show nothing new -/
theorem Seen.jump {ps : List Word} {b b' r' : Nat} {p : Word} (S : Seen tags A B ps b) (hb : b = tags.length * rk tags p + tags.length + 1) (gap : ∀ q ∈ ps, rk tags q ≤ rk tags p ∨ r' ≤ rk tags q) (hb' : b' ≤ tags.length * r' + 1) (hbb : b ≤ b') : Seen tags A B ps b' := by
  refine ⟨S.inT, S.inc, fun q hq => Nat.lt_of_lt_of_le (S.lt q hq) hbb, S.nn, S.nd, ?_⟩
  have key : ∀ n (u : Word), u.length ≤ n → (∀ t ∈ u, t ∈ tags) → rk tags u < b' → make tags A u = make tags B u ∧ (pairOf tags A B u = (none, none) ∨ ∃ p ∈ ps, pairOf tags A B p = pairOf tags A B u ∧ rk tags p ≤ rk tags u) := by
    intro n
    induction n with
    | zero =>
      intro u hn hu hr
      have : u = [] := List.length_eq_zero_iff.mp (by omega)
      subst this
      exact S.all [] hu (by show 0 < b; omega)
    | succ n ih =>
      intro u hn hu hr
      rcases Nat.lt_or_ge (rk tags u) b with q | q
      · exact S.all u hu q
      · rcases word_end u with rfl | ⟨u', t, rfl⟩
        · exact S.all [] hu (by show 0 < b; omega)
        · have ht : t ∈ tags := hu t (by simp)
          have hu' : ∀ s ∈ u', s ∈ tags := fun s hs => hu s (List.mem_append_left _ hs)
          have hi := ix_lt ht
          have hl : u'.length ≤ n := by
            rw [List.length_append] at hn
            have : [t].length = 1 := rfl
            omega
          have hrk := rk_snoc (tags := tags) (u := u') (t := t)
          have g1 : rk tags p < rk tags u' := by
            rcases Nat.lt_or_ge (rk tags p) (rk tags u') with z | z
            · exact z
            · have := Nat.mul_le_mul_left tags.length z
              omega
          have g2 : rk tags u' < r' := by
            rcases Nat.lt_or_ge (rk tags u') r' with z | z
            · exact z
            · have := Nat.mul_le_mul_left tags.length z
              omega
          have g3 : rk tags u' < rk tags (u' ++ [t]) := by
            rw [hrk]
            have : 1 * rk tags u' ≤ tags.length * rk tags u' := Nat.mul_le_mul_right _ (by omega)
            omega
          obtain ⟨e', h'⟩ := ih u' hl hu' (by omega)
          rcases h' with h' | ⟨v, hv, hp, hle⟩
          · obtain ⟨a1, a2⟩ := same_nn (t := t) h' e'
            exact ⟨a1, .inl a2⟩
          · have hvp : rk tags v ≤ rk tags p := by
              rcases gap v hv with z | z
              · exact z
              · omega
            have hvt : rk tags (v ++ [t]) < b := by
              rw [rk_snoc]
              have := Nat.mul_le_mul_left tags.length hvp
              omega
            have hvT : ∀ s ∈ v ++ [t], s ∈ tags := fun s hs => by
              rcases List.mem_append.mp hs with z | z
              · exact S.inT v hv s z
              · rw [List.mem_singleton.mp z]
                exact ht
            obtain ⟨c1, c2⟩ := S.all (v ++ [t]) hvT hvt
            have ev := (S.all v (S.inT v hv) (S.lt v hv)).1
            have hps := pair_snoc (t := t) hp
            refine ⟨same_snoc hp.symm e' ev (S.nn v hv) c1, ?_⟩
            rw [← hps]
            rcases c2 with c2 | ⟨p2, d1, d2, d3⟩
            · exact .inl c2
            · exact .inr ⟨p2, d1, d2, Nat.le_trans d3 (rk_le hle)⟩
  exact fun u hu hr => key u.length u (Nat.le_refl _) hu hr
end
end QM
end

section
set_option Elab.async false
set_option linter.all false
set_option maxRecDepth 100000
/-! Qdisp: {(..): v, ..}, a dict that is written with tuple keys of any depth. -/
namespace PySem
open Sem (wp)
section
variable {prog : Program} {w : World} {K : Type} [DecidableEq K] {knd : HeapKind prog w K} {A : Around} {E : Value → Shared → Prop} {s : Shared}
theorem wpAny_Dict_pairsS {env : Env} {keys : List (Option Expr)} {values : List Expr} {pos : Pos} {pairs : List (Sem Value × Sem Value)} {Q : Value → Shared → Prop} (hu : knd.room A)
    (hshape : (evalEachOpt keys env).zip ((evalEach values env).map fun v => do let x ← v; standAt pos; pure x) = pairs.map fun p => (some p.1, p.2)) (h0 : pairs ≠ []) (hlen : pairs.length ≤ 15)
    (h : wpAny (model prog w) A (evalPairs pairs) (fun vs s₁ => ∃ ps, CarriesH knd s₁.heap vs ps ∧ s₁.heap.DictOfH knd s.heap.objs.size [] ∧
      ∀ h' tk, h'.DictOfH knd s.heap.objs.size (storedAllH [] ps) → Heap.SameBut s.heap.objs.size s₁.heap h' → Q (.ref s.heap.objs.size) { s₁ with heap := h', toks := tk }) E
      { s with heap := s.heap.push { cls := .type "dict", data := .dict #[] } }) :
    wpAny (model prog w) A (eval (.Dict keys values pos) env) Q E s := by
  rw [arm_eval_Dict, hshape, dictDisplay_pairs pairs h0 (by omega)]
  exact wpAny_bind (wpAny_standAt (wpAny_bind (wpAny_subDictH (knd := knd) (Q := fun d s' => wpAny (model prog w) A (pure (Value.ref d)) Q E s') hu hlen
    (wpAny_mono h (fun vs s₁ h₁ => by obtain ⟨ps, hc, hm, hq⟩ := h₁; exact ⟨ps, hc, hm, fun h' tk a b => wpAny_pure (hq h' tk a b)⟩) fun _ _ e => e))))
end
end PySem
namespace QD
open PySem PySem.Spec PyProof.Rows L2
abbrev Enr := NestedKey × Addr × V
def putAll (kvs : List (NestedKey × V)) (es : List Enr) : List (NestedKey × V) := es.foldl (fun acc e => putK acc e.1 e.2.2) kvs
abbrev EnR (H : Hp) : Enr → NestedKey × Addr × Value → Prop := fun e r => e.1 = r.1 ∧ NV H e.1 (.ref r.2.1) ∧ e.1.depth ≤ 8 ∧ RelV e.2.2 r.2.2
theorem carries_ofN {P : Program} {w : World} {H : Hp} {h : Heap} (ok : HOk P w H h) : ∀ {es : List Enr} {ws : List (Value × Value)}, VV (es.map fun e => (V.ref e.2.1, e.2.2)) ws → (∀ e ∈ es, NV H e.1 (.ref e.2.1) ∧ e.1.depth ≤ 8) → ∃ rs, CarriesH (nestedKind P w) h ws rs ∧ Paired (EnR H) es rs
  | [], _, r, _ => by rw [List.map_nil] at r; cases r; exact ⟨[], True.intro, .nil⟩
  | e :: es, _, r, hn => by
    rw [List.map_cons] at r
    cases r with
    | @cons a b as bs h t =>
      obtain ⟨rs, c, q⟩ := carries_ofN (P := P) (w := w) ok t fun x hx => hn x (List.mem_cons_of_mem _ hx)
      obtain ⟨b1, b2⟩ := b
      obtain ⟨n1, n2⟩ := hn e List.mem_cons_self
      have e1 : b1 = Value.ref e.2.1 := h.1
      exact ⟨(e.1, e.2.1, b2) :: rs, ⟨e1, rfl, key_is ok n1 n2, c⟩, .cons ⟨rfl, n1, n2, h.2⟩ q⟩
theorem ent_all {H : Hp} : ∀ {es : List Enr} {rs : List (NestedKey × Addr × Value)} {kvs : List (NestedKey × V)} {xs : List (NestedKey × Addr × Value)}, Paired (EnR H) es rs → Paired (Ent H) kvs xs → Paired (Ent H) (putAll kvs es) (storedAllH xs rs)
  | _, _, _, _, .nil, h => h
  | _, _, kvs, xs, .cons (a := e) (b := r) q t, h => by
    obtain ⟨k, a, v⟩ := r
    obtain ⟨q1, q2, q3, q4⟩ := q
    have q1 : e.1 = k := q1
    have := ent_put h e.1 (b := a) (y := e.2.2) (u := v) q2 q3 q4
    rw [q1] at this
    show Paired (Ent H) (putAll (putK kvs e.1 e.2.2) _) (storedAllH (storedH xs k a v) _)
    rw [q1]
    exact ent_all t this
theorem putAll_len : ∀ (es : List Enr) (kvs : List (NestedKey × V)), (putAll kvs es).length ≤ kvs.length + es.length
  | [], kvs => Nat.le_refl _
  | e :: es, kvs => by
    have h1 := putAll_len es (putK kvs e.1 e.2.2)
    have h2 := length_putK kvs e.1 e.2.2
    show (putAll (putK kvs e.1 e.2.2) es).length ≤ _
    rw [List.length_cons]
    omega
section
variable {X : Cx}
/-- {k: v, ..}, the keys tuples -/
def tDispN (X : Cx) (trs : List (TE × TE)) : TE := fun σ H Q => ∀ p H', H p = none → (∀ b, b ≠ p → H' b = H b) → H' p ≠ none → tPairs trs σ H' fun ps H2 => H2 p = H' p ∧ ∃ es : List Enr, ps = es.map (fun e => (V.ref e.2.1, e.2.2)) ∧ (∀ e ∈ es, NV H2 e.1 (.ref e.2.1) ∧ e.1.depth ≤ 8) ∧ es.length ≤ 15 ∧
  ∀ H3, (∀ c, c ≠ p → H3 c = H2 c) → DN X.prog X.w H3 p (putAll [] es) → H3 p ≠ none → Q (.ref p) H3
theorem pe_dispN (hu : X.A.units + 64 < cLine) {pos : Pos} {keys : List (Option Expr)} {values : List Expr} {trs : List (TE × TE)} (h : PPs X pos keys values trs) (hall : keys.all (·.isSome) = true := by rfl) (hl : keys.length = values.length := by rfl) (h0 : keys ≠ [] := by exact fun z => nomatch z)
    (h15 : keys.length ≤ 15 := by decide) : PE X (.Dict keys values pos) (tDispN X trs) := by
  refine ⟨fun pins s σ H Q I q => ?_⟩
  have nm : (s.heap.objs.size == sysModules) = false := by
    have q := I.big
    refine beq_eq_false_iff_ne.mpr fun e => ?_
    rw [show s.heap.objs.size = sysModules from e] at q
    exact Nat.lt_irrefl _ q
  have new : ObjOk X.prog X.w (upd H s.heap.objs.size (.ext (Dφ X.prog X.w s.heap.objs.size []))) (s.heap.push { cls := .type "dict", data := .dict #[] }) s.heap.objs.size (.ext (Dφ X.prog X.w s.heap.objs.size [])) :=
    dn_ok (Heap.DictOfH.new s.heap) (Nat.zero_le _)
  have I1 := I.laid (a := s.heap.objs.size) (t' := s.toks) (fun _ _ q => Heap.get?_push_of_some _ q) (Nat.le_refl _) new
  have hn := pairTrees_length keys values X.env pos hall hl
  refine wpAny_Dict_pairsS (knd := nestedKind X.prog X.w) (pairs := pairTrees keys values X.env pos) (show X.A.units + 8 < cLine by omega) (zip_pairTrees keys values X.env pos hall hl) ?_ (by rw [hn]; exact h15) ?_
  · intro he
    rw [he] at hn
    exact h0 (List.length_eq_zero_iff.mp hn.symm)
  refine thn (h.run pins _ σ _ _ I1 (q _ _ (I.hok.fresh (Nat.le_refl _)) (fun b hb => upd_ne hb) (by rw [upd_same]; exact fun z => nomatch z))) fun vs s2 ⟨ps, H2, I2, rel, e2, es, ep, hN, hl5, q3⟩ => ?_
  subst ep
  rw [upd_same] at e2
  obtain ⟨rs, c, rk⟩ := carries_ofN I2.hok rel hN
  obtain ⟨dd, z⟩ := dn_of I2.hok e2 (kvs := []) .nil
  refine ⟨rs, c, dd, fun h' tk dd' hs => ?_⟩
  have ent := ent_all rk (kvs := []) (xs := []) .nil
  have hz : (storedAllH [] rs).length ≤ sizeLine := by
    rw [← Paired.length ent]
    have h1 := putAll_len es []
    rw [List.length_nil] at h1
    rw [sizeLine_eq]
    omega
  have tkk : ∀ c ys, H2 c = some (.tup ys) → upd H2 s.heap.objs.size (.ext (Dφ X.prog X.w s.heap.objs.size (storedAllH [] rs))) c = some (.tup ys) := fun c ys e => by
    rw [upd_ne (ne_of e e2 (fun z => nomatch z))]
    exact e
  have he : ∃ q, h'.get? s.heap.objs.size = some q := let ⟨q, _, _, hq, _⟩ := dd'; ⟨q, hq⟩
  have W := d_write (t' := tk) (ob := .ext (Dφ X.prog X.w s.heap.objs.size (storedAllH [] rs))) I2 (by rw [e2]; exact True.intro) hs he (dn_ok dd' hz)
  exact ⟨.ref s.heap.objs.size, _, W, rfl, q3 _ (fun c hc => upd_ne hc) ⟨nm, _, upd_same, Paired.mapP ent fun p q e => ⟨e.1, e.2.1.to tkk, e.2.2⟩⟩ (by rw [upd_same]; exact fun z => nomatch z)⟩
end
end QD
end

section
set_option Elab.async false
set_option linter.all false
set_option maxRecDepth 100000
set_option maxHeartbeats 4000000
namespace Law
open PySem PySem.Spec PyProof.Rows L2 LamX QB QM
def topS (i : Nat) : Stmt := PySem.Challenge.pw_subjecttags_k04_whole_parting_subjects.main.body.getD i (.Pass ⟨0, 0, 0, 0⟩)
abbrev s__wall : Stmt := topS 0
theorem sc__wall : FnScope ["k"] ["k"] (defScope s__wall) := ⟨rfl, rfl, rfl, by decide +kernel, rfl, by decide +kernel, by decide +kernel⟩
abbrev s_InvalidTags___init__ : Stmt := inClass (topS 3) 0
theorem sc_InvalidTags___init__ : FnScope ["self", "index"] ["self", "index"] (defScope s_InvalidTags___init__) := ⟨rfl, rfl, rfl, by decide +kernel, rfl, by decide +kernel, by decide +kernel⟩
abbrev s_InvalidSubject___init__ : Stmt := inClass (topS 4) 0
theorem sc_InvalidSubject___init__ : FnScope ["self", "index"] ["self", "index"] (defScope s_InvalidSubject___init__) := ⟨rfl, rfl, rfl, by decide +kernel, rfl, by decide +kernel, by decide +kernel⟩
abbrev s_InvalidEater___init__ : Stmt := inClass (topS 5) 0
theorem sc_InvalidEater___init__ : FnScope ["self", "index"] ["self", "index"] (defScope s_InvalidEater___init__) := ⟨rfl, rfl, rfl, by decide +kernel, rfl, by decide +kernel, by decide +kernel⟩
abbrev s_TooMany___init__ : Stmt := inClass (topS 7) 0
theorem sc_TooMany___init__ : FnScope ["self", "limit"] ["self", "limit"] (defScope s_TooMany___init__) := ⟨rfl, rfl, rfl, by decide +kernel, rfl, by decide +kernel, by decide +kernel⟩
abbrev s_is_number : Stmt := topS 15
theorem sc_is_number : FnScope ["x", "least", "most"] ["x", "least", "most"] (defScope s_is_number) := ⟨rfl, rfl, rfl, by decide +kernel, rfl, by decide +kernel, by decide +kernel⟩
abbrev s_is_list : Stmt := topS 16
theorem sc_is_list : FnScope ["x", "least", "most"] ["x", "least", "most"] (defScope s_is_list) := ⟨rfl, rfl, rfl, by decide +kernel, rfl, by decide +kernel, by decide +kernel⟩
abbrev s_is_name : Stmt := topS 17
theorem sc_is_name : FnScope ["x", "letter"] ["x"] (defScope s_is_name) := ⟨rfl, rfl, rfl, by decide +kernel, rfl, by decide +kernel, by decide +kernel⟩
abbrev s_is_tag : Stmt := topS 18
theorem sc_is_tag : FnScope ["tags", "x"] ["tags", "x"] (defScope s_is_tag) := ⟨rfl, rfl, rfl, by decide +kernel, rfl, by decide +kernel, by decide +kernel⟩
abbrev s_is_subject : Stmt := topS 19
theorem sc_is_subject : FnScope ["tags", "x", "tag"] ["tags", "x"] (defScope s_is_subject) := ⟨rfl, rfl, rfl, by decide +kernel, rfl, by decide +kernel, by decide +kernel⟩
abbrev s_is_standing : Stmt := topS 20
theorem sc_is_standing : FnScope ["tags", "many", "x", "word", "ways", "way"] ["tags", "many", "x"] (defScope s_is_standing) := ⟨rfl, rfl, rfl, by decide +kernel, rfl, by decide +kernel, by decide +kernel⟩
abbrev s_check_tags : Stmt := topS 21
theorem sc_check_tags : FnScope ["tags", "at", "tag"] ["tags"] (defScope s_check_tags) := ⟨rfl, rfl, rfl, by decide +kernel, rfl, by decide +kernel, by decide +kernel⟩
abbrev s_check_word : Stmt := topS 22
theorem sc_check_word : FnScope ["tags", "word", "most", "at", "tag"] ["tags", "word", "most"] (defScope s_check_word) := ⟨rfl, rfl, rfl, by decide +kernel, rfl, by decide +kernel, by decide +kernel⟩
abbrev s_check_standings : Stmt := topS 23
theorem sc_check_standings : FnScope ["tags", "standings", "at", "standing"] ["tags", "standings"] (defScope s_check_standings) := ⟨rfl, rfl, rfl, by decide +kernel, rfl, by decide +kernel, by decide +kernel⟩
abbrev s_no_ways : Stmt := topS 25
theorem sc_no_ways : FnScope ["tags"] ["tags"] (defScope s_no_ways) := ⟨rfl, rfl, rfl, by decide +kernel, rfl, by decide +kernel, by decide +kernel⟩
abbrev s_walked : Stmt := topS 26
theorem sc_walked : FnScope ["tags", "standings", "word", "at", "many", "tag", "way"] ["tags", "standings", "word"] (defScope s_walked) := ⟨rfl, rfl, rfl, by decide +kernel, rfl, by decide +kernel, by decide +kernel⟩
abbrev s_made : Stmt := topS 27
theorem sc_made : FnScope ["tags", "standings", "subject", "at", "many"] ["tags", "standings", "subject"] (defScope s_made) := ⟨rfl, rfl, rfl, by decide +kernel, rfl, by decide +kernel, by decide +kernel⟩
abbrev s_is_settled_at : Stmt := topS 28
theorem sc_is_settled_at : FnScope ["standing", "way"] ["standing"] (defScope s_is_settled_at) := ⟨rfl, rfl, rfl, by decide +kernel, rfl, by decide +kernel, by decide +kernel⟩
abbrev s_is_made_at : Stmt := topS 29
theorem sc_is_made_at : FnScope ["tags", "standing", "subject", "word", "ways", "stops", "tag", "way"] ["tags", "standing", "subject"] (defScope s_is_made_at) := ⟨rfl, rfl, rfl, by decide +kernel, rfl, by decide +kernel, by decide +kernel⟩
abbrev s_copied : Stmt := topS 30
theorem sc_copied : FnScope ["standings", "word", "ways"] ["standings"] (defScope s_copied) := ⟨rfl, rfl, rfl, by decide +kernel, rfl, by decide +kernel, by decide +kernel⟩
abbrev s_without_needless_ways : Stmt := topS 31
theorem sc_without_needless_ways : FnScope ["tags", "standings", "needed", "settled", "at", "word", "ways", "place", "tag", "way"] ["tags", "standings"] (defScope s_without_needless_ways) := ⟨rfl, rfl, rfl, by decide +kernel, rfl, by decide +kernel, by decide +kernel⟩
abbrev s_numbered : Stmt := topS 32
theorem sc_numbered : FnScope ["marks", "numbers", "told", "mark"] ["marks"] (defScope s_numbered) := ⟨rfl, rfl, rfl, by decide +kernel, rfl, by decide +kernel, by decide +kernel⟩
abbrev s_parted : Stmt := topS 33
theorem sc_parted : FnScope ["classes", "standings", "marks", "number", "_", "ways", "way"] ["classes", "standings"] (defScope s_parted) := ⟨rfl, rfl, rfl, by decide +kernel, rfl, by decide +kernel, by decide +kernel⟩
abbrev s_alike_classes : Stmt := topS 34
theorem sc_alike_classes : FnScope ["standings", "classes", "many", "word", "_"] ["standings"] (defScope s_alike_classes) := ⟨rfl, rfl, rfl, by decide +kernel, rfl, by decide +kernel, by decide +kernel⟩
abbrev s_in_order_met : Stmt := topS 35
theorem sc_in_order_met : FnScope ["standings", "classes", "numbers", "met", "told", "beside", "ways", "way"] ["standings", "classes"] (defScope s_in_order_met) := ⟨rfl, rfl, rfl, by decide +kernel, rfl, by decide +kernel, by decide +kernel⟩
abbrev s_least_form : Stmt := topS 36
theorem sc_least_form : FnScope ["tags", "standings", "needed"] ["tags", "standings"] (defScope s_least_form) := ⟨rfl, rfl, rfl, by decide +kernel, rfl, by decide +kernel, by decide +kernel⟩
abbrev s_moved : Stmt := topS 37
theorem sc_moved : FnScope ["ways", "by", "way"] ["ways", "by"] (defScope s_moved) := ⟨rfl, rfl, rfl, by decide +kernel, rfl, by decide +kernel, by decide +kernel⟩
abbrev s_one_behind_other : Stmt := topS 38
theorem sc_one_behind_other : FnScope ["tags", "first", "second", "standings", "word", "ways", "at", "many", "onward", "joined", "way", "after"] ["tags", "first", "second"] (defScope s_one_behind_other) := ⟨rfl, rfl, rfl, by decide +kernel, rfl, by decide +kernel, by decide +kernel⟩
abbrev s_stepped : Stmt := topS 39
theorem sc_stepped : FnScope ["standings", "at", "place", "stopped", "way"] ["standings", "at", "place", "stopped"] (defScope s_stepped) := ⟨rfl, rfl, rfl, by decide +kernel, rfl, by decide +kernel, by decide +kernel⟩
abbrev s_way_back : Stmt := topS 40
theorem sc_way_back : FnScope ["came", "node", "tags", "tag"] ["came", "node"] (defScope s_way_back) := ⟨rfl, rfl, rfl, by decide +kernel, rfl, by decide +kernel, by decide +kernel⟩
abbrev s_parting_word : Stmt := topS 41
theorem sc_parting_word : FnScope ["tags", "one", "other", "came", "met", "at", "left", "right", "word", "place", "tag", "onward", "made_left", "beside", "made_right"] ["tags", "one", "other"] (defScope s_parting_word) := ⟨rfl, rfl, rfl, by decide +kernel, rfl, by decide +kernel, by decide +kernel⟩
abbrev s_Eater___init__ : Stmt := inClass (topS 44) 0
theorem sc_Eater___init__ : FnScope ["self", "tags", "standings"] ["self", "tags", "standings"] (defScope s_Eater___init__) := ⟨rfl, rfl, rfl, by decide +kernel, rfl, by decide +kernel, by decide +kernel⟩
abbrev s_Eater___len__ : Stmt := inClass (topS 44) 1
theorem sc_Eater___len__ : FnScope ["self"] ["self"] (defScope s_Eater___len__) := ⟨rfl, rfl, rfl, by decide +kernel, rfl, by decide +kernel, by decide +kernel⟩
abbrev s_Eater___eq__ : Stmt := inClass (topS 44) 2
theorem sc_Eater___eq__ : FnScope ["self", "other"] ["self", "other"] (defScope s_Eater___eq__) := ⟨rfl, rfl, rfl, by decide +kernel, rfl, by decide +kernel, by decide +kernel⟩
abbrev s_Eater___contains__ : Stmt := inClass (topS 44) 3
theorem sc_Eater___contains__ : FnScope ["self", "x", "standing"] ["self", "x"] (defScope s_Eater___contains__) := ⟨rfl, rfl, rfl, by decide +kernel, rfl, by decide +kernel, by decide +kernel⟩
abbrev s_Eater_tags : Stmt := inClass (topS 44) 4
theorem sc_Eater_tags : FnScope ["self"] ["self"] (defScope s_Eater_tags) := ⟨rfl, rfl, rfl, by decide +kernel, rfl, by decide +kernel, by decide +kernel⟩
abbrev s_Eater_standings : Stmt := inClass (topS 44) 5
theorem sc_Eater_standings : FnScope ["self"] ["self"] (defScope s_Eater_standings) := ⟨rfl, rfl, rfl, by decide +kernel, rfl, by decide +kernel, by decide +kernel⟩
abbrev s_Eater_on : Stmt := inClass (topS 44) 6
theorem sc_Eater_on : FnScope ["self", "subject"] ["self", "subject"] (defScope s_Eater_on) := ⟨rfl, rfl, rfl, by decide +kernel, rfl, by decide +kernel, by decide +kernel⟩
abbrev s_Eater_settled : Stmt := inClass (topS 44) 7
theorem sc_Eater_settled : FnScope ["self", "word", "at", "many"] ["self", "word"] (defScope s_Eater_settled) := ⟨rfl, rfl, rfl, by decide +kernel, rfl, by decide +kernel, by decide +kernel⟩
abbrev s_Eater_then : Stmt := inClass (topS 44) 8
theorem sc_Eater_then : FnScope ["self", "other"] ["self", "other"] (defScope s_Eater_then) := ⟨rfl, rfl, rfl, by decide +kernel, rfl, by decide +kernel, by decide +kernel⟩
abbrev s_Eater_power : Stmt := inClass (topS 44) 9
theorem sc_Eater_power : FnScope ["self", "times"] ["self", "times"] (defScope s_Eater_power) := ⟨rfl, rfl, rfl, by decide +kernel, rfl, by decide +kernel, by decide +kernel⟩
abbrev s_eater_of : Stmt := topS 45
theorem sc_eater_of : FnScope ["tags", "form", "eater"] ["tags", "form"] (defScope s_eater_of) := ⟨rfl, rfl, rfl, by decide +kernel, rfl, by decide +kernel, by decide +kernel⟩
abbrev s_small_form : Stmt := topS 46
theorem sc_small_form : FnScope ["form", "word", "_"] ["form"] (defScope s_small_form) := ⟨rfl, rfl, rfl, by decide +kernel, rfl, by decide +kernel, by decide +kernel⟩
abbrev s_check_same_tags : Stmt := topS 47
theorem sc_check_same_tags : FnScope ["one", "other"] ["one", "other"] (defScope s_check_same_tags) := ⟨rfl, rfl, rfl, by decide +kernel, rfl, by decide +kernel, by decide +kernel⟩
abbrev s_parting : Stmt := topS 48
theorem sc_parting : FnScope ["one", "other"] ["one", "other"] (defScope s_parting) := ⟨rfl, rfl, rfl, by decide +kernel, rfl, by decide +kernel, by decide +kernel⟩
abbrev s__law_mixed : Stmt := topS 50
theorem sc__law_mixed : FnScope ["cell", "k", "figure"] ["cell", "k"] (defScope s__law_mixed) := ⟨rfl, rfl, rfl, by decide +kernel, rfl, by decide +kernel, by decide +kernel⟩
abbrev s__law_pile : Stmt := topS 51
theorem sc__law_pile : FnScope ["script", "k", "cell", "digits"] ["script", "k"] (defScope s__law_pile) := ⟨rfl, rfl, rfl, by decide +kernel, rfl, by decide +kernel, by decide +kernel⟩
abbrev s__law_take : Stmt := topS 52
theorem sc__law_take : FnScope ["pile", "many", "digit"] ["pile", "many"] (defScope s__law_take) := ⟨rfl, rfl, rfl, by decide +kernel, rfl, by decide +kernel, by decide +kernel⟩
abbrev s__law_tags : Stmt := topS 53
theorem sc__law_tags : FnScope ["pile", "many", "letters", "stem", "at", "shift", "pace", "plain", "tail", "some", "k", "name"] ["pile", "many"] (defScope s__law_tags) := ⟨rfl, rfl, rfl, by decide +kernel, rfl, by decide +kernel, by decide +kernel⟩
abbrev s__law_eater : Stmt := topS 54
theorem sc__law_eater : FnScope ["pile", "tags", "most", "long", "many", "found", "k", "word", "ways", "turn", "tag", "place"] ["pile", "tags", "most", "long"] (defScope s__law_eater) := ⟨rfl, rfl, rfl, by decide +kernel, rfl, by decide +kernel, by decide +kernel⟩
abbrev s__law_made : Stmt := topS 55
theorem sc__law_made : FnScope ["tags", "standings", "subject", "place", "count"] ["tags", "standings", "subject"] (defScope s__law_made) := ⟨rfl, rfl, rfl, by decide +kernel, rfl, by decide +kernel, by decide +kernel⟩
abbrev s__law_words : Stmt := topS 56
theorem sc__law_words : FnScope ["tags", "most", "found", "last", "turn", "longer", "word", "tag"] ["tags", "most"] (defScope s__law_words) := ⟨rfl, rfl, rfl, by decide +kernel, rfl, by decide +kernel, by decide +kernel⟩
abbrev s__law_copy : Stmt := topS 57
theorem sc__law_copy : FnScope ["standings", "word", "ways"] ["standings"] (defScope s__law_copy) := ⟨rfl, rfl, rfl, by decide +kernel, rfl, by decide +kernel, by decide +kernel⟩
abbrev s__law_near : Stmt := topS 58
theorem sc__law_near : FnScope ["pile", "tags", "standings", "found", "at", "word", "ways", "way", "tag"] ["pile", "tags", "standings"] (defScope s__law_near) := ⟨rfl, rfl, rfl, by decide +kernel, rfl, by decide +kernel, by decide +kernel⟩
abbrev s__law_least_parting : Stmt := topS 59
theorem sc__law_least_parting : FnScope ["tags", "one", "other", "most", "word"] ["tags", "one", "other", "most"] (defScope s__law_least_parting) := ⟨rfl, rfl, rfl, by decide +kernel, rfl, by decide +kernel, by decide +kernel⟩
abbrev s_law : Stmt := topS 60
theorem sc_law : FnScope ["script", "k", "pile", "tags", "most", "one", "made_v", "other", "near", "due", "turn", "found"] ["script"] (defScope s_law) := ⟨rfl, rfl, rfl, by decide +kernel, rfl, by decide +kernel, by decide +kernel⟩
structure TX (K : PySem.W.Frag) (mg : Str → Option Value) : Type where
  n_abs : mg "abs" = none
  n_all : mg "all" = none
  n_any : mg "any" = none
  n_bool : mg "bool" = none
  n_enumerate : mg "enumerate" = none
  n_int : mg "int" = none
  n_isinstance : mg "isinstance" = none
  n_len : mg "len" = none
  n_list : mg "list" = none
  n_max : mg "max" = none
  n_range : mg "range" = none
  n_sorted : mg "sorted" = none
  n_str : mg "str" = none
  n_tuple : mg "tuple" = none
  n_zip : mg "zip" = none
  c_LETTERS : ∃ u, mg "LETTERS" = some u ∧ RelV (.str "abcdefghijklmnopqrstuvwxyz") u
  c_MOST_LETTERS : ∃ u, mg "MOST_LETTERS" = some u ∧ RelV (.int 8) u
  c_MOST_TAGS : ∃ u, mg "MOST_TAGS" = some u ∧ RelV (.int 6) u
  c_MOST_STANDINGS : ∃ u, mg "MOST_STANDINGS" = some u ∧ RelV (.int 30) u
  c_LONGEST_WORD : ∃ u, mg "LONGEST_WORD" = some u ∧ RelV (.int 8) u
  c_LONGEST_SUBJECT : ∃ u, mg "LONGEST_SUBJECT" = some u ∧ RelV (.int 200) u
  c_LARGEST : ∃ u, mg "LARGEST" = some u ∧ RelV (.int 200) u
  d__wall : QB.TopAt K mg "_wall" s__wall ["k"]
  d_is_number : QB.TopAt K mg "is_number" s_is_number ["x", "least", "most"]
  d_is_list : QB.TopAt K mg "is_list" s_is_list ["x", "least", "most"]
  d_is_name : QB.TopAt K mg "is_name" s_is_name ["x"]
  d_is_tag : QB.TopAt K mg "is_tag" s_is_tag ["tags", "x"]
  d_is_subject : QB.TopAt K mg "is_subject" s_is_subject ["tags", "x"]
  d_is_standing : QB.TopAt K mg "is_standing" s_is_standing ["tags", "many", "x"]
  d_check_tags : QB.TopAt K mg "check_tags" s_check_tags ["tags"]
  d_check_word : QB.TopAt K mg "check_word" s_check_word ["tags", "word", "most"]
  d_check_standings : QB.TopAt K mg "check_standings" s_check_standings ["tags", "standings"]
  d_no_ways : QB.TopAt K mg "no_ways" s_no_ways ["tags"]
  d_walked : QB.TopAt K mg "walked" s_walked ["tags", "standings", "word"]
  d_made : QB.TopAt K mg "made" s_made ["tags", "standings", "subject"]
  d_is_settled_at : QB.TopAt K mg "is_settled_at" s_is_settled_at ["standing"]
  d_is_made_at : QB.TopAt K mg "is_made_at" s_is_made_at ["tags", "standing", "subject"]
  d_copied : QB.TopAt K mg "copied" s_copied ["standings"]
  d_without_needless_ways : QB.TopAt K mg "without_needless_ways" s_without_needless_ways ["tags", "standings"]
  d_numbered : QB.TopAt K mg "numbered" s_numbered ["marks"]
  d_parted : QB.TopAt K mg "parted" s_parted ["classes", "standings"]
  d_alike_classes : QB.TopAt K mg "alike_classes" s_alike_classes ["standings"]
  d_in_order_met : QB.TopAt K mg "in_order_met" s_in_order_met ["standings", "classes"]
  d_least_form : QB.TopAt K mg "least_form" s_least_form ["tags", "standings"]
  d_moved : QB.TopAt K mg "moved" s_moved ["ways", "by"]
  d_one_behind_other : QB.TopAt K mg "one_behind_other" s_one_behind_other ["tags", "first", "second"]
  d_stepped : QB.TopAt K mg "stepped" s_stepped ["standings", "at", "place", "stopped"]
  d_way_back : QB.TopAt K mg "way_back" s_way_back ["came", "node"]
  d_parting_word : QB.TopAt K mg "parting_word" s_parting_word ["tags", "one", "other"]
  d_eater_of : QB.TopAt K mg "eater_of" s_eater_of ["tags", "form"]
  d_small_form : QB.TopAt K mg "small_form" s_small_form ["form"]
  d_check_same_tags : QB.TopAt K mg "check_same_tags" s_check_same_tags ["one", "other"]
  d_parting : QB.TopAt K mg "parting" s_parting ["one", "other"]
  d__law_mixed : QB.TopAt K mg "_law_mixed" s__law_mixed ["cell", "k"]
  d__law_pile : QB.TopAt K mg "_law_pile" s__law_pile ["script", "k"]
  d__law_take : QB.TopAt K mg "_law_take" s__law_take ["pile", "many"]
  d__law_tags : QB.TopAt K mg "_law_tags" s__law_tags ["pile", "many"]
  d__law_eater : QB.TopAt K mg "_law_eater" s__law_eater ["pile", "tags", "most", "long"]
  d__law_made : QB.TopAt K mg "_law_made" s__law_made ["tags", "standings", "subject"]
  d__law_words : QB.TopAt K mg "_law_words" s__law_words ["tags", "most"]
  d__law_copy : QB.TopAt K mg "_law_copy" s__law_copy ["standings"]
  d__law_near : QB.TopAt K mg "_law_near" s__law_near ["pile", "tags", "standings"]
  d__law_least_parting : QB.TopAt K mg "_law_least_parting" s__law_least_parting ["tags", "one", "other", "most"]
  d_law : QB.TopAt K mg "law" s_law ["script"]
  lam_c : Addr
  lam_P : Addr
  lam_F : QB.FunC K "without_needless_ways" "without_needless_ways" s_without_needless_ways d_without_needless_ways.a d_without_needless_ways.fd lam_c
  c_Eater : Addr
  m_Eater : mg "Eater" = some (.ref c_Eater)
  cl_Eater : Cls K c_Eater
  oc_Eater : QO.OwnC K c_Eater
  d_Eater___init__ : QB.DefAt K "__init__" "Eater.__init__" s_Eater___init__ ["self", "tags", "standings"]
  d_Eater___len__ : QB.DefAt K "__len__" "Eater.__len__" s_Eater___len__ ["self"]
  h_Eater___len__ : Meth K c_Eater "__len__" d_Eater___len__.a
  d_Eater___eq__ : QB.DefAt K "__eq__" "Eater.__eq__" s_Eater___eq__ ["self", "other"]
  h_Eater___eq__ : Meth K c_Eater "__eq__" d_Eater___eq__.a
  d_Eater___contains__ : QB.DefAt K "__contains__" "Eater.__contains__" s_Eater___contains__ ["self", "x"]
  h_Eater___contains__ : Meth K c_Eater "__contains__" d_Eater___contains__.a
  d_Eater_tags : QB.DefAt K "tags" "Eater.tags" s_Eater_tags ["self"]
  h_Eater_tags : Meth K c_Eater "tags" d_Eater_tags.a
  d_Eater_standings : QB.DefAt K "standings" "Eater.standings" s_Eater_standings ["self"]
  h_Eater_standings : Meth K c_Eater "standings" d_Eater_standings.a
  d_Eater_on : QB.DefAt K "on" "Eater.on" s_Eater_on ["self", "subject"]
  h_Eater_on : Meth K c_Eater "on" d_Eater_on.a
  d_Eater_settled : QB.DefAt K "settled" "Eater.settled" s_Eater_settled ["self", "word"]
  h_Eater_settled : Meth K c_Eater "settled" d_Eater_settled.a
  d_Eater_then : QB.DefAt K "then" "Eater.then" s_Eater_then ["self", "other"]
  h_Eater_then : Meth K c_Eater "then" d_Eater_then.a
  d_Eater_power : QB.DefAt K "power" "Eater.power" s_Eater_power ["self", "times"]
  h_Eater_power : Meth K c_Eater "power" d_Eater_power.a
  mk_Eater : Mk K c_Eater d_Eater___init__.a
  na_Eater__standings : NoAttr K c_Eater "_standings"
  na_Eater__tags : NoAttr K c_Eater "_tags"
section
variable {P : Program} {w : World} {K : PySem.W.Frag} {mg : Str → Option Value} {base : Heap}

def spWalked (K : PySem.W.Frag) : Sp := fun vs H Q _ => ∃ (a b c : Addr) (tags : List Str) (F : Form) (wd : Word), vs = [.ref a, .ref b, .ref c] ∧ WordAt H a tags ∧ FormAt H b F ∧ WordAt H c wd ∧ Good tags F ∧ (∀ t ∈ wd, t ∈ tags) ∧ wd.length ≤ 100000 ∧
  ∀ (p : Addr) (H' : Hp), Same H H' → H p = none → H' p = some (.tup [.int ((walk tags F wd).1 : Int), .int ((walk tags F wd).2 : Int)]) → Q (.ref p) H'
theorem ok_walked (X : TX K mg) : FnOk P w K mg base CX0 1 X.d_walked.a X.d_walked.fd ["tags", "standings", "word"] (spWalked K) := by
  have nd := sc_walked.nd
  refine X.d_walked.F.ok sc_walked (fun vs H Q E h => ?_) (fun cdv A outer s H vs Q E hr h => ?_)
  · obtain ⟨a, b, c, tags, F, wd, rfl, _⟩ := h
    rfl
  · obtain ⟨a, b, c, tags, F, wd, rfl, hT, hF, hw, g, hin, hz, k⟩ := h
    refine ⟨_, (pss_cons (ps_set (i := 3) nd rfl (Or.inl rfl) pe_int) (pss_cons (ps_for PassesOwn.never rfl (QB.pi_enumK K (by rfl) X.n_enumerate (pa_cons (pv 2) pa_nil)) (pg_tup (by rfl) (pgs_cons (pg_name (i := 4) nd rfl (Or.inl rfl)) (pgs_cons (pg_name (i := 5) nd rfl (Or.inl rfl)) (pgs_nil)))) (pss_cons (ps_set (i := 6) nd rfl (Or.inl rfl) (pe_ix (QB.ix_listK K) (pe_ix (QB.ix_tupK K) (pe_ix (QB.ix_listK K) (pv 1) (pv 3) (fun _ _ => rfl)) pe_int (fun _ _ => rfl)) (QB.pe_bmK K PySem.F.plainAttrs_list PySem.F.slot_list_index PySem.F.type_list_index (QB.mt_indexK K) (pv 0) (pa_cons (pv 5) pa_nil)) (fun _ _ => rfl))) (pss_cons (ps_if (pt_cmpR op_isN (pv 6) pe_non (nomark _)) (pss_one (ps_ret (pe_tup (pa_cons (pv 3) (pa_cons (pv 4) pa_nil))))) pss_nil) (pss_one (ps_set (i := 3) nd rfl (Or.inl rfl) (pv 6)))))) (pss_one (ps_ret (pe_tup (pa_cons (pv 3) (pa_cons (pe_callB (QB.call_lenK K) (by rfl) X.n_len PySem.boot_len (pa_cons (pv 2) pa_nil)) pa_nil))))))), ?_⟩
    try dsimp only [Cx.nox, Cx.wish, cxOf]
    refine ⟨_, rfl, _, _, rfl, SqL.of hw, ?_⟩
    refine for_it (walk_enumW (K := K) (a := c) (w := wd)) (fun i σ H' => ∃ (at_ : Nat) (v4 v5 v6 : Option V), σ = [some (.ref a), some (.ref b), some (.ref c), some (.int (at_ : Int)), v4, v5, v6] ∧ Same H H' ∧ at_ < F.length ∧ walkFrom tags F at_ i (wd.drop i) = walk tags F wd)
      ⟨0, none, none, none, rfl, Same.refl H, g.pos, rfl⟩ (fun i σ H' _ ⟨_, _, _, _, _, s1, _⟩ => Same.word s1 hw) ?_ ?_
    · rintro i v σ H1 H2 hi ⟨at_, v4, v5, v6, rfl, s1, hat, hwk⟩ ⟨tp, x, hx, ntp, rfl, rfl⟩
      have s2 : Same H (upd H1 tp (.tup [.int (i : Int), .str x])) := Same.new s1 ntp
      have eF : F[at_]? = some F[at_] := by simp [hat]
      have hxt : x ∈ tags := hin x (List.mem_of_getElem? hx)
      obtain ⟨vs, t, p1, p2, f1, f2, f3, f4, f5, f6⟩ := (Same.form s2 hF).at eF
      have ed : wd.drop i = x :: wd.drop (i + 1) := (List.drop_eq_getElem_cons hi).trans (by rw [List.getElem?_eq_getElem hi] at hx; rw [Option.some.inj hx])
      rw [ed] at hwk
      unfold walkFrom at hwk
      rw [wayAt_of eF] at hwk
      refine ⟨tp, _, rfl, SqT.of upd_same, rfl, _, _, rfl, _, _, rfl, rfl, ?_⟩
      refine ⟨_, rfl, _, rfl, _, _, _, _, rfl, rfl, SqL.of f1, atI_nat f3, _, _, _, _, rfl, rfl, SqT.of f4, rfl, ?_⟩
      refine ⟨_, rfl, .inl ⟨rfl, _, SqL.of (Same.word s2 hT)⟩, _, rfl, ?_⟩
      dsimp only [tNil]
      refine index_word (Same.word s2 hT) hxt ?_
      refine ⟨_, _, _, _, rfl, rfl, SqL.of f6, atI_nat (vWs_get (g.way eF hxt)), ?_⟩
      refine ⟨_, rfl, rfl, _, rfl, ?_⟩
      cases e : way tags F[at_] x with
      | none =>
        rw [e] at hwk
        refine iteT ?_
        refine ⟨_, rfl, _, rfl, (by show 2 ≤ sizeLine; decide), fun p hp => ?_⟩
        refine k p _ (Same.new s2 hp) (Same.free s2 hp) ?_
        rw [← hwk]
        exact upd_same
      | some n =>
        rw [e] at hwk
        refine iteF ?_
        exact ⟨_, rfl, n, _, _, _, rfl, s2, g.wayLt eF hxt e, hwk⟩
    · rintro σ H1 ⟨at_, v4, v5, v6, rfl, s1, hat, hwk⟩
      rw [List.drop_length] at hwk
      refine ⟨_, rfl, _, rfl, _, _, rfl, .inl (SqL.of (Same.word s1 hw)), (by show 2 ≤ sizeLine; decide), fun p hp => ?_⟩
      refine k p _ (Same.new s1 hp) (Same.free s1 hp) ?_
      rw [← hwk, vS_len]
      exact upd_same

def spMade : Sp := fun vs H Q _ => ∃ (a b c : Addr) (tags : List Str) (F : Form) (wd : Word), vs = [.ref a, .ref b, .ref c] ∧ WordAt H a tags ∧ FormAt H b F ∧ WordAt H c wd ∧ Good tags F ∧ (∀ t ∈ wd, t ∈ tags) ∧ wd.length ≤ 10000 ∧ (∀ s ∈ F, s.1.length ≤ 10000) ∧
  ∀ (p : Addr) (H' : Hp), Same H H' → H p = none → H' p = some (.lst (vS (make tags F wd))) → Q (.ref p) H'
theorem ok_made (X : TX K mg) : FnOk P w K mg base CX0 2 X.d_made.a X.d_made.fd ["tags", "standings", "subject"] spMade := by
  have nd := sc_made.nd
  refine X.d_made.F.ok sc_made (fun vs H Q E h => ?_) (fun cdv A outer s H vs Q E hr h => ?_)
  · obtain ⟨a, b, c, tags, F, wd, rfl, _⟩ := h
    rfl
  · obtain ⟨a, b, c, tags, F, wd, rfl, hT, hF, hw, g, hin, hz, hz2, k⟩ := h
    refine ⟨_, (pss_cons (ps_asg (pe_call (ok_walked X) (hr.mono (by decide)) rfl X.d_walked.mg X.d_walked.F.kp X.d_walked.b .nil pass0 (pa_cons (pv 0) (pa_cons (pv 1) (pa_cons (pv 2) pa_nil)))) (pg_tup (by rfl) (pgs_cons (pg_name (i := 3) nd rfl (Or.inl rfl)) (pgs_cons (pg_name (i := 4) nd rfl (Or.inl rfl)) (pgs_nil))))) (pss_one (ps_ret (pe_op op_cat (pe_ix (QB.ix_tupK K) (pe_ix (QB.ix_listK K) (pv 1) (pv 3) (fun _ _ => rfl)) pe_int (fun _ _ => rfl)) (pe_slice (QB.sl_listK K) (pv 2) (po_some (pv 4)) po_none))))), ?_⟩
    try dsimp only [Cx.nox, Cx.wish, cxOf]
    refine ⟨_, rfl, _, rfl, _, rfl, ?_⟩
    refine ⟨a, b, c, tags, F, wd, rfl, hT, hF, hw, g, hin, Nat.le_trans hz (by decide), fun tp H1 s1 ntp h1 => ?_⟩
    refine ⟨tp, _, rfl, SqT.of h1, rfl, _, _, rfl, _, _, rfl, rfl, ?_⟩
    have hwl := (walk_lt g hin).1
    have eF : F[(walk tags F wd).1]? = some F[(walk tags F wd).1] := List.getElem?_eq_getElem hwl
    obtain ⟨vs, t, p1, p2, f1, f2, f3, f4, f5, f6⟩ := (Same.form s1 hF).at eF
    refine ⟨_, rfl, _, rfl, _, _, _, _, rfl, rfl, SqL.of f1, atI_nat f3, _, _, _, _, rfl, rfl, SqT.of f4, rfl, ?_⟩
    refine ⟨_, rfl, _, rfl, _, rfl, _, _, rfl, SqL.of (Same.word s1 hw), fun q hq => ?_⟩
    rw [cut_drop, vS_drop]
    refine ⟨_, _, _, _, rfl, rfl, Eq.trans (upd_ne (ne_of_none f5 hq)) f5, upd_same, ?_, fun p hp => ?_⟩
    · have z1 := hz2 _ (mem_of eF)
      have z2 : (wd.drop (walk tags F wd).2).length ≤ wd.length := by rw [List.length_drop]; omega
      rw [vS_len, vS_len]
      exact sz_le (by omega)
    · have s2 : Same H (upd H1 q (.lst (vS (wd.drop (walk tags F wd).2)))) := Same.new s1 hq
      refine k p _ (Same.new s2 hp) (Same.free s2 hp) ?_
      rw [upd_same, vS_append]
      unfold make
      rw [wordOf_of eF]

def spSettledAt : Sp := fun vs H Q _ => ∃ (t a b : Addr) (ws : Ways), vs = [.ref t] ∧ H t = some (.tup [.ref a, .ref b]) ∧ WaysAt H b ws ∧ ws.length ≤ 1000 ∧ ∀ H', Same H H' → Q (.bl (ws.all Option.isNone)) H'
theorem ok_is_settled_at (X : TX K mg) : FnOk P w K mg base CX0 1 X.d_is_settled_at.a X.d_is_settled_at.fd ["standing"] spSettledAt := by
  have nd := sc_is_settled_at.nd
  refine X.d_is_settled_at.F.ok sc_is_settled_at (fun vs H Q E h => ?_) (fun cdv A outer s H vs Q E hr h => ?_)
  · obtain ⟨t, a, b, ws, rfl, _⟩ := h
    rfl
  · obtain ⟨t, a, b, ws, rfl, ht, hw, hz, k⟩ := h
    refine ⟨_, (pss_one (ps_ret (pe_callB (QB.cr_allK K rfl) (by rfl) X.n_all QB.bo_all (pa_cons (pe_lc (own := [("way", 1)]) (g := gName 1) (tt := tYes) rfl nd (QB.pi_listK K (pe_ix (QB.ix_tupK K) (pv 0) pe_int (fun _ _ => rfl))) (blkOk_by (N := ["standing", "way"]) (sc := defScope s_is_settled_at) (by decide +kernel)) (fun _ _ _ _ _ => pg_name (i := 1) nd rfl (Or.inl rfl)) (fun _ _ _ _ _ => pts_nil) (fun _ _ _ _ _ => (pe_cmpR op_isN (pv 1) pe_non (nomark _)))) pa_nil)))), ?_⟩
    try dsimp only [Cx.nox, Cx.wish, cxOf]
    refine ⟨_, rfl, _, _, _, _, rfl, rfl, SqT.of ht, rfl, _, rfl, ⟨_, SqL.of hw⟩, fun D hD => ?_⟩
    refine lc_map (walk_listWs (K := K) (a := b) (ws := ws)) hD (by omega) (fun H1 s1 => Same.ways s1 hw) (fun i => .bl ((ws[i]?).join.isNone)) ?_ ?_
    · rintro i x H1 H2 kk hi s1 ⟨y, hy, rfl, rfl⟩ hk
      refine ⟨rfl, _, rfl, rfl, ?_⟩
      have e := hk H2 (Same.refl H2)
      rw [hy] at e
      rw [vW_is]
      exact e
    · intro H1 s1 e
      rw [range_map_get _ ws (fun x => .bl x.isNone) (fun i x hx => by rw [hx]; rfl)] at e
      refine ⟨_, ws.map Option.isNone, rfl, SqL.of (by rw [e, List.map_map]; rfl), ?_⟩
      have e2 := k H1 s1
      rw [List.all_map]
      exact e2
end
end Law
end

section
set_option Elab.async false
set_option linter.all false
set_option maxRecDepth 100000
set_option maxHeartbeats 4000000
namespace Law
open PySem PySem.Spec PyProof.Rows L2 LamX QB QM
section
variable {P : Program} {w : World} {K : PySem.W.Frag} {mg : Str → Option Value} {base : Heap}
def spCopied : Sp := fun vs H Q _ => ∃ (b : Addr) (F : Form), vs = [.ref b] ∧ FormAt H b F ∧ F.length ≤ 10000 ∧ ∀ (p : Addr) (L : List Tri) (H' : Hp), Same H H' → NewF H H' p L F → Q (.ref p) H'
theorem ok_copied (X : TX K mg) : FnOk P w K mg base CX0 1 X.d_copied.a X.d_copied.fd ["standings"] spCopied := by
  have nd := sc_copied.nd
  refine X.d_copied.F.ok sc_copied (fun vs H Q E h => ?_) (fun cdv A outer s H vs Q E hr h => ?_)
  · obtain ⟨b, F, rfl, _⟩ := h
    rfl
  · obtain ⟨b, F, rfl, hF, hz, k⟩ := h
    refine ⟨_, (pss_one (ps_ret (pe_lc (own := [("word", 1), ("ways", 2)]) (g := gTup K 2 (gCons (gName 1) (gCons (gName 2) (gNil)))) (tt := tYes) rfl nd (QB.pi_listK K (pv 0)) (blkOk_by (N := ["standings", "word", "ways"]) (sc := defScope s_copied) (by decide +kernel)) (fun _ _ _ _ _ => pg_tup (by rfl) (pgs_cons (pg_name (i := 1) nd rfl (Or.inl rfl)) (pgs_cons (pg_name (i := 2) nd rfl (Or.inl rfl)) (pgs_nil)))) (fun _ _ _ _ _ => pts_nil) (fun _ _ _ _ _ => (pe_tup (pa_cons (pe_callTy (QB.call_listK K) (by rfl) X.n_list QB.bo_list (pa_cons (pv 1) pa_nil)) (pa_cons (pe_callTy (QB.call_listK K) (by rfl) X.n_list QB.bo_list (pa_cons (pv 2) pa_nil)) pa_nil))))))), ?_⟩
    try dsimp only [Cx.nox, Cx.wish, cxOf]
    obtain ⟨vs, hv, hvl⟩ := FormAt.lst hF
    refine ⟨_, rfl, _, rfl, ⟨_, SqL.of hv⟩, fun D hD => ?_⟩
    refine lc_it (walk_listF (K := K) (p := b) (F := F)) (fun i H' => Same H H' ∧ ∃ L, H' D = some (.lst (L.map fun x => V.ref x.1)) ∧ NewL H H' L (F.take i) ∧ D ∉ inner L)
      ⟨same_new hD, [], upd_same, NewL.nil, by simp [inner]⟩ (fun i H' _ h => Same.form h.1 hF) ?_ ?_
    · rintro i x H1 H2 hi ⟨s1, L, hL, nL, oD⟩ ⟨s, t, a, b', hs, rfl, rfl, h1, h2, h3⟩
      refine ⟨t, _, rfl, SqT.of h1, rfl, _, _, rfl, _, _, rfl, rfl, rfl, ?_⟩
      refine ⟨_, rfl, _, _, rfl, .inl (SqL.of h2), fun p1 hp1 => ?_⟩
      have e1 : Same H2 (upd H2 p1 (.lst (vS s.1))) := same_new hp1
      refine ⟨_, rfl, _, _, rfl, .inl (SqL.of (Same.ways e1 h3)), fun p2 hp2 => ?_⟩
      have e2 := Same.new e1 (o := .lst (vWs s.2)) hp2
      refine ⟨by show 2 ≤ sizeLine; decide, fun p3 hp3 => ?_⟩
      have e3 := Same.new e2 (o := .tup [V.ref p1, V.ref p2]) hp3
      have q1 : (upd (upd (upd H2 p1 (.lst (vS s.1))) p2 (.lst (vWs s.2))) p3 (.tup [V.ref p1, V.ref p2])) p1 = some (.lst (vS s.1)) := by
        rw [upd_ne (ne_of_none ((upd_ne (ne_of_none upd_same hp2)).trans upd_same) hp3), upd_ne (ne_of_none upd_same hp2), upd_same]
      have q2 : (upd (upd (upd H2 p1 (.lst (vS s.1))) p2 (.lst (vWs s.2))) p3 (.tup [V.ref p1, V.ref p2])) p2 = some (.lst (vWs s.2)) := by
        rw [upd_ne (ne_of_none upd_same hp3), upd_same]
      have n2 : H2 p2 = none := e1.free hp2
      have n3 : H2 p3 = none := e2.free hp3
      have n12 : p1 ≠ p2 := ne_of_none upd_same hp2
      have hs' : F.take (i + 1) = F.take i ++ [s] := by rw [List.take_succ, hs]; rfl
      refine ⟨_, e3 _ _ hL, ?_, Same.mut (s1.trans e3) hD, L ++ [(p3, p1, p2)], ?_, ?_, ?_⟩
      · rw [List.length_map, nL.len, List.length_take]
        exact sz_lt (by omega)
      · rw [upd_same, List.map_append]
        rfl
      · rw [hs']
        have n := nL.snoc e3 hp1 n2 n12 (t := p3) (s := s) upd_same q1 q2 (.of (s1.free n3)) (.of (s1.free hp1)) (.of (s1.free n2))
        exact n.upd (e3 _ _ hL) (not_inner_snoc oD (ne_of_none hL hp1) (ne_of_none hL n2))
      · exact not_inner_snoc oD (ne_of_none hL hp1) (ne_of_none hL n2)
    · rintro H1 ⟨s1, L, hL, nL, oD⟩
      rw [List.take_length] at nL
      exact k D L H1 s1 ⟨hL, nL, .of hD, oD⟩

/-- a list of tuples that are keys -/
def MarksAt (H : Hp) (a : Addr) (ks : List NestedKey) : Prop := ∃ bs : List Addr, H a = some (.lst (bs.map V.ref)) ∧ Paired (fun b k => QD.NV H k (.ref b) ∧ k.depth ≤ 8) bs ks
def IntsAt (H : Hp) (a : Addr) (ns : List Nat) : Prop := H a = some (.lst (ns.map fun (n : Nat) => V.int (n : Int)))
def spNumbered : Sp := fun vs H Q _ => ∃ (a : Addr) (ks : List NestedKey), vs = [.ref a] ∧ MarksAt H a ks ∧ ks.length ≤ 10000 ∧ ∀ (p : Addr) (H' : Hp), Same H H' → H p = none → IntsAt H' p (QD.numb ks) → Q (.ref p) H'
theorem ok_numbered (X : TX K mg) : FnOk P w K mg base CX0 1 X.d_numbered.a X.d_numbered.fd ["marks"] spNumbered := by
  have nd := sc_numbered.nd
  refine X.d_numbered.F.ok sc_numbered (fun vs H Q E h => ?_) (fun cdv A outer s H vs Q E hr h => ?_)
  · obtain ⟨a, ks, rfl, _⟩ := h
    rfl
  · obtain ⟨a, ks, rfl, ⟨bs, hb, hbs⟩, hz, k⟩ := h
    refine ⟨_, (pss_cons (ps_set (i := 1) nd rfl (Or.inl rfl) QD.pe_newN) (pss_cons (ps_set (i := 2) nd rfl (Or.inl rfl) (pe_lst pa_nil)) (pss_cons (ps_for PassesOwn.never rfl (QB.pi_listK K (pv 0)) (pg_name (i := 3) nd rfl (Or.inl rfl)) (pss_cons (ps_if (pt_cmp (QD.pc_notinN (hu64 hr) (pv 3) (pv 1))) (pss_one (QD.ps_putN (hu64 hr) (pv 1) (pv 3) (pe_callB QD.call_lenN (by rfl) X.n_len PySem.boot_len (pa_cons (pv 1) pa_nil)) rfl)) pss_nil) (pss_one (ps_expr (QB.pe_bmK K PySem.F.plainAttrs_list PySem.F.slot_list_append PySem.F.type_list_append mt_append (pv 2) (pa_cons (QD.pe_getN (hu64 hr) (pv 1) (pv 3) (fun _ _ => rfl)) pa_nil)))))) (pss_one (ps_ret (pv 2)))))), ?_⟩
    try dsimp only [Cx.nox, Cx.wish, cxOf]
    refine fun d H1 hd o1 dn1 _ => ?_
    have s1 : Same H H1 := fun b u e => by rw [o1 b (ne_of_none e hd)]; exact e
    refine ⟨Nat.zero_le _, fun l hl => ?_⟩
    have hl0 : H l = none := s1.free hl
    have ndl : d ≠ l := by
      obtain ⟨_, xs, h1, _⟩ := dn1
      exact ne_of_none h1 hl
    refine ⟨_, rfl, _, rfl, ⟨_, SqL.of (Eq.trans (upd_ne (ne_of_none (s1 _ _ hb) hl)) (s1 _ _ hb))⟩, ?_⟩
    have hlen := Paired.length hbs
    refine for_it (walk_list (K := K) (a := a) (xs := bs.map V.ref)) (fun i σ H' => ∃ (v3 : Option V), σ = [some (.ref a), some (.ref d), some (.ref l), v3] ∧ Same H H' ∧ QD.DN P w H' d (QD.dictFrom 0 (QD.seenOf (ks.take i))) ∧ IntsAt H' l (QD.numb (ks.take i)))
      ⟨none, rfl, Same.new s1 hl, dn1.to (fun b xs e => (upd_ne (ne_of_none e hl)).trans e) (upd_ne ndl), upd_same⟩ (fun i σ H' _ ⟨_, _, s2, _⟩ => SqL.of (s2 _ _ hb)) ?_ ?_
    · rintro i x σ H2 H3 hi ⟨v3, rfl, s2, dn, hI⟩ ⟨rfl, hx⟩
      rw [List.length_map] at hi
      have hbi : bs[i]? = some bs[i] := List.getElem?_eq_getElem hi
      rw [List.getElem?_map, hbi] at hx
      cases hx
      obtain ⟨m, hm, nv, dp⟩ := paired_get' hbs hbi
      have nv3 : QD.NV H3 m (.ref bs[i]) := nv.to fun b xs e => s2 _ _ e
      have htk : ks.take (i + 1) = ks.take i ++ [m] := by rw [List.take_succ, hm]; rfl
      have hsl := QD.seenOf_len (ks.take i)
      rw [List.length_take] at hsl
      have hIl : (QD.numb (ks.take i)).length ≤ 10000 := by rw [QD.numb_len, List.length_take]; omega
      refine ⟨_, rfl, _, rfl, d, bs[i], _, m, rfl, rfl, dn, nv3, dp, _, rfl, ?_⟩
      rw [QD.valV_dictFrom]
      by_cases hin : m ∈ QD.seenOf (ks.take i)
      · rw [if_pos hin]
        refine ⟨_, rfl, .inl ⟨rfl, _, SqL.of hI⟩, ?_⟩
        refine ⟨_, rfl, _, rfl, d, bs[i], _, m, _, rfl, rfl, dn, nv3, dp, (by rw [QD.valV_dictFrom, if_pos hin]), ?_⟩
        refine ⟨l, _, _, rfl, rfl, hI, sz_lt (by rw [List.length_map]; omega), ?_⟩
        refine ⟨_, rfl, Same.mut s2 hl0, dn.to (fun b xs e => (upd_ne (ne_of e hI (fun z => nomatch z))).trans e) (upd_ne ?_) |> (fun z => by rw [htk, QD.seenOf_snoc]; unfold QD.addSeen; rw [if_pos hin]; exact z), ?_⟩
        · obtain ⟨_, xs, h1, _⟩ := dn
          exact ne_of h1 hI (fun z => nomatch z)
        · rw [htk]
          unfold IntsAt
          rw [upd_same, QD.numb_snoc, List.map_append]
          unfold QD.addSeen
          rw [if_pos hin, Nat.zero_add]
          rfl
      · rw [if_neg hin]
        refine ⟨_, rfl, d, _, rfl, dn, _, rfl, _, rfl, d, bs[i], _, m, rfl, rfl, dn, nv3, dp, sz_lt (by rw [QD.dictFrom_len]; omega), fun H4 o4 dn4 _ => ?_⟩
        rw [QD.dictFrom_len] at dn4
        have dn5 : QD.DN P w H4 d (QD.dictFrom 0 (QD.seenOf (ks.take i) ++ [m])) := by
          have e := QD.putK_dictFrom (n := 0) hin
          rw [Nat.zero_add] at e
          rw [← e]
          exact dn4
        have ndl2 : l ≠ d := by
          obtain ⟨_, xs, h1, _⟩ := dn
          exact (ne_of h1 hI (fun z => nomatch z)).symm
        have hd3 : ∀ b xs, H3 b = some (.tup xs) → H4 b = some (.tup xs) := fun b xs e => by
          obtain ⟨_, ys, h1, _⟩ := dn
          exact (o4 b (ne_of e h1 (fun z => nomatch z))).trans e
        have nv4 := nv3.to hd3
        have hI4 : IntsAt H4 l (QD.numb (ks.take i)) := (o4 l ndl2).trans hI
        have s4 : Same H H4 := fun b u e => (o4 b (ne_of_none e hd)).trans (s2 b u e)
        refine ⟨_, rfl, .inl ⟨rfl, _, SqL.of hI4⟩, ?_⟩
        refine ⟨_, rfl, _, rfl, d, bs[i], _, m, _, rfl, rfl, dn5, nv4, dp, (by rw [QD.valV_dictFrom, if_pos (by simp)]), ?_⟩
        refine ⟨l, _, _, rfl, rfl, hI4, sz_lt (by rw [List.length_map]; omega), ?_⟩
        refine ⟨_, rfl, Same.mut s4 hl0, dn5.to (fun b xs e => (upd_ne (ne_of e hI4 (fun z => nomatch z))).trans e) (upd_ne ndl2.symm) |> (fun z => by rw [htk, QD.seenOf_snoc]; unfold QD.addSeen; rw [if_neg hin]; exact z), ?_⟩
        rw [htk]
        unfold IntsAt
        rw [upd_same, QD.numb_snoc, List.map_append]
        unfold QD.addSeen
        rw [if_neg hin, Nat.zero_add]
        rfl
    · rintro σ H2 ⟨v3, rfl, s2, dn, hI⟩
      rw [List.take_of_length_le (by rw [List.length_map]; omega)] at hI
      exact ⟨_, rfl, k l H2 s2 hl0 hI⟩
end
end Law
end

section
set_option Elab.async false
set_option linter.all false
set_option maxRecDepth 100000
set_option maxHeartbeats 4000000
namespace Law
open PySem PySem.Spec PyProof.Rows L2 LamX QB QM
section
variable {P : Program} {w : World} {K : PySem.W.Frag} {mg : Str → Option Value} {base : Heap}
theorem ints_get {ns : List Nat} {k n : Nat} (h : ns[k]? = some n) : (ns.map fun (n : Nat) => V.int (n : Int))[k]? = some (.int (n : Int)) := by
  rw [List.getElem?_map, h]
  rfl
theorem Same.ints {H H' : Hp} {a : Addr} {ns : List Nat} (e : Same H H') (h : IntsAt H a ns) : IntsAt H' a ns := e _ _ h
theorem Same.marks {H H' : Hp} {a : Addr} {ks : List NestedKey} (e : Same H H') (h : MarksAt H a ks) : MarksAt H' a ks := by
  obtain ⟨bs, h1, h2⟩ := h
  exact ⟨bs, e _ _ h1, L2.Paired.mapP h2 fun b k z => ⟨z.1.to fun c xs e' => e _ _ e', z.2⟩⟩
/-- the standings' ways lead to standings -/
def WaysIn (F : Form) : Prop := ∀ s ∈ F, s.2.length ≤ 100 ∧ ∀ n, some n ∈ s.2 → n < F.length
theorem nvs_ints {H : Hp} (f : α → Int) : ∀ l : List α, QD.NVs H (l.map fun x => NestedKey.num (f x)) (l.map fun x => V.int (f x))
  | [] => .nil
  | _ :: l => .cons (.num _) (nvs_ints f l)
def wayInt (cs : List Nat) : Option Nat → Int
  | none => -1
  | some n => ((cs.getD n 0 : Nat) : Int)
theorem wayNum_eq (cs : List Nat) (w : Option Nat) : wayNum cs w = .num (wayInt cs w) := by cases w <;> rfl
theorem depthAll_num (f : α → Int) : ∀ l : List α, NestedKey.depthAll (l.map fun x => NestedKey.num (f x)) = 0
  | [] => rfl
  | _ :: l => by
    show max (NestedKey.depth (.num _)) (NestedKey.depthAll _) = 0
    rw [depthAll_num f l]
    rfl
def spParted : Sp := fun vs H Q _ => ∃ (a b : Addr) (cs : List Nat) (F : Form), vs = [.ref a, .ref b] ∧ IntsAt H a cs ∧ FormAt H b F ∧ cs.length = F.length ∧ F.length ≤ 5000 ∧ WaysIn F ∧
  ∀ (p : Addr) (H' : Hp), Same H H' → H p = none → IntsAt H' p (part cs F) → Q (.ref p) H'
theorem ok_parted (X : TX K mg) : FnOk P w K mg base CX0 2 X.d_parted.a X.d_parted.fd ["classes", "standings"] spParted := by
  have nd := sc_parted.nd
  refine X.d_parted.F.ok sc_parted (fun vs H Q E h => ?_) (fun cdv A outer s H vs Q E hr h => ?_)
  · obtain ⟨a, b, cs, F, rfl, _⟩ := h
    rfl
  · obtain ⟨a, b, cs, F, rfl, hc, hF, hlen, hz, hin, k⟩ := h
    refine ⟨_, (pss_cons (ps_set (i := 2) nd rfl (Or.inl rfl) (pe_lst pa_nil)) (pss_cons (ps_for PassesOwn.never rfl (QB.pi_zipK K (by rfl) X.n_zip (pa_cons (pv 0) (pa_cons (pv 1) pa_nil))) (pg_tup (by rfl) (pgs_cons (pg_name (i := 3) nd rfl (Or.inl rfl)) (pgs_cons (pg_tup (by rfl) (pgs_cons (pg_name (i := 4) nd rfl (Or.inl rfl)) (pgs_cons (pg_name (i := 5) nd rfl (Or.inl rfl)) (pgs_nil)))) (pgs_nil)))) (pss_one (ps_expr (QB.pe_bmK K PySem.F.plainAttrs_list PySem.F.slot_list_append PySem.F.type_list_append mt_append (pv 2) (pa_cons (pe_tup (pa_cons (pv 3) (pa_cons (pe_callTy (QB.call_tupleK K) (by rfl) X.n_tuple QB.bo_tuple (pa_cons (pe_lc (own := [("way", 6)]) (g := gName 6) (tt := tYes) rfl nd (QB.pi_listK K (pv 5)) (blkOk_by (N := ["classes", "standings", "marks", "number", "_", "ways", "way"]) (sc := defScope s_parted) (by decide +kernel)) (fun _ _ _ _ _ => pg_name (i := 6) nd rfl (Or.inl rfl)) (fun _ _ _ _ _ => pts_nil) (fun _ _ _ _ _ => (pe_ifExp (pt_cmpR op_isN (pv 6) pe_non (nomark _)) (pe_un un_neg pe_int) (pe_ix (QB.ix_listK K) (pv 0) (pv 6) (fun _ _ => rfl))))) pa_nil)) pa_nil))) pa_nil))))) (pss_one (ps_ret (pe_call (ok_numbered X) (hr.mono (by decide)) rfl X.d_numbered.mg X.d_numbered.F.kp X.d_numbered.b .nil pass0 (pa_cons (pv 2) pa_nil)))))), ?_⟩
    try dsimp only [Cx.nox, Cx.wish, cxOf]
    refine ⟨Nat.zero_le _, fun l hl => ?_⟩
    have s0 : Same H (upd H l (.lst [])) := same_new hl
    obtain ⟨ts, hts, hpr⟩ := hF
    have hlt := Paired.length hpr
    refine ⟨_, rfl, _, rfl, _, _, _, _, rfl, SqL.of (Same.ints s0 hc), SqL.of (s0 _ _ hts), ?_⟩
    refine for_it (walk_zip (K := K) (a := a) (b := b) (n := F.length) (by rw [List.length_map, List.length_map]; omega)) (fun i σ H' => ∃ (v3 v4 v5 : Option V), σ = [some (.ref a), some (.ref b), some (.ref l), v3, v4, v5, none] ∧ Same H H' ∧ MarksAt H' l ((partKeys cs F).take i))
      ⟨none, none, none, rfl, s0, [], upd_same, .nil⟩ (fun i σ H' _ ⟨_, _, _, _, s1, _⟩ => ⟨SqL.of (Same.ints s1 hc), SqL.of (s1 _ _ hts)⟩) ?_ ?_
    · rintro i x σ H1 H2 hi ⟨v3, v4, v5, rfl, s1, ms, hms, hpm⟩ ⟨tp, x1, x2, rfl, ntp, rfl, e1, e2⟩
      have hci : cs[i]? = some (cs[i]'(by omega)) := List.getElem?_eq_getElem _
      have e1 : (cs.map fun (n : Nat) => V.int (n : Int))[i]? = some x1 := e1
      rw [ints_get hci] at e1
      cases e1
      have hFi : F[i]? = some F[i] := List.getElem?_eq_getElem hi
      obtain ⟨t, ht, p1, p2, f1, f2, f3⟩ := paired_get hpr hFi
      have e2 : (ts.map V.ref)[i]? = some x2 := e2
      rw [List.getElem?_map, ht] at e2
      cases e2
      have s2 : Same H (upd H1 tp (.tup [.int ((cs[i]'(by omega) : Nat) : Int), .ref t])) := Same.new s1 ntp
      have s12 : Same H1 (upd H1 tp (.tup [.int ((cs[i]'(by omega) : Nat) : Int), .ref t])) := same_new ntp
      refine ⟨tp, _, rfl, SqT.of upd_same, rfl, _, _, rfl, _, _, rfl, ⟨t, _, rfl, SqT.of (s2 _ _ f1), rfl, _, _, rfl, _, _, rfl, rfl, rfl, ?_⟩⟩
      refine ⟨_, rfl, .inl ⟨rfl, _, SqL.of (s12 _ _ hms)⟩, ?_⟩
      refine ⟨_, rfl, _, rfl, _, rfl, ⟨_, SqL.of (Same.ways s2 f3)⟩, fun D hD => ?_⟩
      refine lc_map (walk_listWs (K := K) (a := p2) (ws := F[i].2)) hD (by have := (hin _ (mem_of hFi)).1; omega) (fun H3 s3 => Same.ways (s2.trans s3) f3) (fun j => .int (wayInt cs (F[i].2[j]?).join)) ?_ ?_
      · rintro j x H3 H4 kk hj s3 ⟨y, hy, rfl, rfl⟩ hk
        have hk' := hk H4 (Same.refl H4)
        rw [hy] at hk'
        refine ⟨rfl, _, rfl, rfl, _, rfl, ?_⟩
        rw [vW_is]
        cases y with
        | none => exact iteT ⟨1, rfl, hk'⟩
        | some n =>
          have hn : n < cs.length := by rw [hlen]; exact (hin _ (mem_of hFi)).2 n (List.mem_of_getElem? hy)
          have hcn : cs[n]? = some cs[n] := List.getElem?_eq_getElem hn
          refine iteF ⟨_, rfl, _, rfl, _, _, _, _, rfl, rfl, SqL.of (Same.ints (s2.trans s3) hc), atI_nat (ints_get hcn), ?_⟩
          have e3 : wayInt cs (some n) = ((cs[n] : Nat) : Int) := by
            show ((cs.getD n 0 : Nat) : Int) = _
            rw [List.getD_eq_getElem?_getD, hcn]
            rfl
          rw [← e3]
          exact hk'
      · intro H3 s3 hD3
        rw [range_map_get _ F[i].2 (fun w => .int (wayInt cs w)) (fun j x hx => by rw [hx]; rfl)] at hD3
        refine ⟨D, _, rfl, .inl ⟨SqL.of hD3, fun q hq => ?_⟩⟩
        refine ⟨by show 2 ≤ sizeLine; decide, fun r hr' => ?_⟩
        have s4 : Same (upd H1 tp (.tup [.int ((cs[i]'(by omega) : Nat) : Int), .ref t])) (upd (upd H3 q (.tup (F[i].2.map fun w => V.int (wayInt cs w)))) r (.tup [.int ((cs[i]'(by omega) : Nat) : Int), .ref q])) := Same.new (Same.new s3 hq) hr'
        have s5 := s12.trans s4
        have hl5 := s5 _ _ hms
        refine ⟨l, _, _, rfl, rfl, hl5, sz_lt ?_, ?_⟩
        · rw [List.length_map, Paired.length hpm, List.length_take]
          omega
        · refine ⟨_, _, _, rfl, Same.mut (s1.trans s5) hl, ms ++ [r], ?_, ?_⟩
          · rw [upd_same, List.map_append]
            rfl
          · have hpk : (partKeys cs F)[i]? = some (partKey cs (cs[i]'(by omega), F[i])) := by
              have ez : (cs.zip F)[i]? = some (cs[i]'(by omega), F[i]) := by
                rw [List.getElem?_zip_eq_some]
                exact ⟨hci, hFi⟩
              unfold partKeys
              rw [List.getElem?_map, ez]
              rfl
            rw [List.take_succ, hpk]
            have tk : ∀ c xs, H1 c = some (.tup xs) → (upd (upd (upd H3 q (.tup (F[i].2.map fun w => V.int (wayInt cs w)))) r (.tup [.int ((cs[i]'(by omega) : Nat) : Int), .ref q])) l (.lst (ms.map V.ref ++ [V.ref r]))) c = some (.tup xs) := fun c xs e =>
              (upd_ne (ne_of e hms (fun z => nomatch z))).trans (s5 _ _ e)
            refine Paired.snoc (L2.Paired.mapP hpm fun b k z => ⟨z.1.to tk, z.2⟩) ⟨?_, ?_⟩
            · have qr : (upd (upd (upd H3 q (.tup (F[i].2.map fun w => V.int (wayInt cs w)))) r (.tup [.int ((cs[i]'(by omega) : Nat) : Int), .ref q])) l (.lst (ms.map V.ref ++ [V.ref r]))) r = some (.tup [.int ((cs[i]'(by omega) : Nat) : Int), .ref q]) :=
                (upd_ne (ne_of upd_same hl5 (fun z => nomatch z))).trans upd_same
              have qq : (upd (upd (upd H3 q (.tup (F[i].2.map fun w => V.int (wayInt cs w)))) r (.tup [.int ((cs[i]'(by omega) : Nat) : Int), .ref q])) l (.lst (ms.map V.ref ++ [V.ref r]))) q = some (.tup (F[i].2.map fun w => V.int (wayInt cs w))) := by
                have z1 : (upd (upd H3 q (.tup (F[i].2.map fun w => V.int (wayInt cs w)))) r (.tup [.int ((cs[i]'(by omega) : Nat) : Int), .ref q])) q = some (.tup (F[i].2.map fun w => V.int (wayInt cs w))) := (upd_ne (ne_of_none upd_same hr')).trans upd_same
                exact (upd_ne (ne_of z1 hl5 (fun z => nomatch z))).trans z1
              refine .tup qr (.cons (.num _) (.cons (.tup qq ?_) .nil))
              have e9 : F[i].2.map (wayNum cs) = F[i].2.map fun w => NestedKey.num (wayInt cs w) := List.map_congr_left fun w _ => wayNum_eq cs w
              rw [e9]
              exact nvs_ints _ _
            · show NestedKey.depth (.tup [.num _, .tup (F[i].2.map (wayNum cs))]) ≤ 8
              have e9 : F[i].2.map (wayNum cs) = F[i].2.map fun w => NestedKey.num (wayInt cs w) := List.map_congr_left fun w _ => wayNum_eq cs w
              rw [e9]
              simp [NestedKey.depth, NestedKey.depthAll, depthAll_num]
    · rintro σ H1 ⟨v3, v4, v5, rfl, s1, hm⟩
      rw [List.take_of_length_le (by rw [partKeys_len hlen]; exact Nat.le_refl _)] at hm
      exact ⟨_, rfl, l, _, rfl, hm, by rw [partKeys_len hlen]; omega, fun p H' s' np hp => k p H' (s1.trans s') (s1.free np) hp⟩

theorem nvs_texts {H : Hp} : ∀ l : List Str, QD.NVs H (l.map NestedKey.text) (l.map V.str)
  | [] => .nil
  | _ :: l => .cons (.text _) (nvs_texts l)
theorem depthAll_text : ∀ l : List Str, NestedKey.depthAll (l.map NestedKey.text) = 0
  | [] => rfl
  | _ :: l => by
    show max (NestedKey.depth (.text _)) (NestedKey.depthAll _) = 0
    rw [depthAll_text l]
    rfl
theorem max_run {H : Hp} {a : Addr} {cs : List Nat} {Q : VK} (h : IntsAt H a cs) (hp : 0 < cs.length) (q : Q (.int (maxOf cs : Int)) H) : rMax K [.ref a] H Q := by
  refine ⟨a, cs.map fun (n : Nat) => (n : Int), rfl, SqL.of (by rw [List.map_map]; exact h), by rw [List.length_map]; exact hp, fun m hm hle => ?_⟩
  obtain ⟨x, hx, rfl⟩ := List.mem_map.mp hm
  have e : maxOf cs = x := maxOf_eq hx fun y hy => by
    have := hle (y : Int) (List.mem_map.mpr ⟨y, hy, rfl⟩)
    omega
  rw [e] at q
  exact q
def spAlike : Sp := fun vs H Q _ => ∃ (b : Addr) (F : Form), vs = [.ref b] ∧ FormAt H b F ∧ 0 < F.length ∧ F.length ≤ 5000 ∧ WaysIn F ∧ (∀ s ∈ F, s.1.length ≤ 10000) ∧ ∀ (p : Addr) (H' : Hp), Same H H' → H p = none → IntsAt H' p (alike F) → Q (.ref p) H'
theorem ok_alike_classes (X : TX K mg) : FnOk P w K mg base CX0 3 X.d_alike_classes.a X.d_alike_classes.fd ["standings"] spAlike := by
  have nd := sc_alike_classes.nd
  refine X.d_alike_classes.F.ok sc_alike_classes (fun vs H Q E h => ?_) (fun cdv A outer s H vs Q E hr h => ?_)
  · obtain ⟨b, F, rfl, _⟩ := h
    rfl
  · obtain ⟨b, F, rfl, hF, hp, hz, hin, hw, k⟩ := h
    refine ⟨_, (pss_cons (ps_set (i := 1) nd rfl (Or.inl rfl) (pe_call (ok_numbered X) (hr.mono (by decide)) rfl X.d_numbered.mg X.d_numbered.F.kp X.d_numbered.b .nil pass0 (pa_cons (pe_lc (own := [("word", 3), ("_", 4)]) (g := gTup K 2 (gCons (gName 3) (gCons (gName 4) (gNil)))) (tt := tYes) rfl nd (QB.pi_listK K (pv 0)) (blkOk_by (N := ["standings", "classes", "many", "word", "_"]) (sc := defScope s_alike_classes) (by decide +kernel)) (fun _ _ _ _ _ => pg_tup (by rfl) (pgs_cons (pg_name (i := 3) nd rfl (Or.inl rfl)) (pgs_cons (pg_name (i := 4) nd rfl (Or.inl rfl)) (pgs_nil)))) (fun _ _ _ _ _ => pts_nil) (fun _ _ _ _ _ => (pe_callTy (QB.call_tupleK K) (by rfl) X.n_tuple QB.bo_tuple (pa_cons (pv 3) pa_nil)))) pa_nil))) (pss_cons (ps_set (i := 2) nd rfl (Or.inl rfl) pe_int) (pss_cons (ps_while PassesOwn.never (pt_cmpR op_le (pv 2) (pe_callB (QB.cr_maxK K rfl) (by rfl) X.n_max QB.bo_max (pa_cons (pv 1) pa_nil)) (nomark _)) (pss_cons (ps_set (i := 2) nd rfl (Or.inl rfl) (pe_op op_add (pe_callB (QB.cr_maxK K rfl) (by rfl) X.n_max QB.bo_max (pa_cons (pv 1) pa_nil)) pe_int)) (pss_one (ps_set (i := 1) nd rfl (Or.inl rfl) (pe_call (ok_parted X) (hr.mono (by decide)) rfl X.d_parted.mg X.d_parted.F.kp X.d_parted.b .nil pass0 (pa_cons (pv 1) (pa_cons (pv 0) pa_nil))))))) (pss_one (ps_ret (pv 1)))))), ?_⟩
    try dsimp only [Cx.nox, Cx.wish, cxOf]
    obtain ⟨vs, hv, hvl⟩ := FormAt.lst hF
    refine ⟨_, rfl, _, rfl, ⟨_, SqL.of hv⟩, fun D hD => ?_⟩
    refine lc_it (walk_listF (K := K) (p := b) (F := F)) (fun i H' => Same H H' ∧ MarksAt H' D (wordKeys (F.take i)))
      ⟨same_new hD, [], upd_same, .nil⟩ (fun i H' _ h => Same.form h.1 hF) ?_ ?_
    · rintro i x H1 H2 hi ⟨s1, ms, hms, hpm⟩ ⟨s, t, a, b', hs, rfl, rfl, h1, h2, h3⟩
      refine ⟨t, _, rfl, SqT.of h1, rfl, _, _, rfl, _, _, rfl, rfl, rfl, ?_⟩
      refine ⟨_, rfl, _, _, rfl, .inl ⟨SqL.of h2, fun q hq => ?_⟩⟩
      have e1 : Same H2 (upd H2 q (.tup (vS s.1))) := same_new hq
      have hml := Paired.length hpm
      unfold wordKeys at hml
      rw [List.length_map, List.length_take] at hml
      refine ⟨_, e1 _ _ hms, sz_lt (by rw [List.length_map]; omega), Same.mut (s1.trans e1) hD, ms ++ [q], ?_, ?_⟩
      · rw [upd_same, List.map_append]
        rfl
      · have tk : ∀ c xs, H2 c = some (.tup xs) → (upd (upd H2 q (.tup (vS s.1))) D (.lst (ms.map V.ref ++ [V.ref q]))) c = some (.tup xs) := fun c xs e =>
          (upd_ne (ne_of e hms (fun z => nomatch z))).trans (e1 _ _ e)
        have hs' : F.take (i + 1) = F.take i ++ [s] := by rw [List.take_succ, hs]; rfl
        unfold wordKeys at hpm ⊢
        rw [hs', List.map_append]
        refine Paired.snoc (L2.Paired.mapP hpm fun b k z => ⟨z.1.to tk, z.2⟩) ⟨.tup (vs := vS s.1) ((upd_ne (ne_of upd_same (e1 _ _ hms) (fun z => nomatch z))).trans upd_same) (nvs_texts _), ?_⟩
        show NestedKey.depth (.tup (s.1.map .text)) ≤ 8
        simp [NestedKey.depth, depthAll_text]
    · rintro H1 ⟨s1, hm⟩
      rw [List.take_length] at hm
      refine ⟨D, _, rfl, hm, by unfold wordKeys; rw [List.length_map]; omega, fun l H2 s2 nl hl => ?_⟩
      refine ⟨fun m σ H' => ∃ (c : Addr) (many : Nat) (cs : List Nat) (v3 v4 : Option V), σ = [some (.ref b), some (.ref c), some (.int (many : Int)), v3, v4] ∧ Same H H' ∧ H c = none ∧ IntsAt H' c cs ∧ cs.length = F.length ∧ (∀ x ∈ cs, x < F.length) ∧ m = F.length + 1 - many ∧
        many ≤ F.length ∧ ∃ f, F.length + 1 ≤ f + many ∧ alikeLoop F f many cs = alike F, ⟨_, l, 0, _, none, none, rfl, s1.trans s2, s1.free nl, hl, by rw [QD.numb_len]; exact List.length_map _, fun x hx => ?_, rfl, Nat.zero_le _, _, Nat.le_refl _, rfl⟩, ?_⟩
      · have := numb_lt' hx
        unfold wordKeys at this
        rwa [List.length_map] at this
      · rintro m σ H3 ⟨c, many, cs, v3, v4, rfl, s3, nc, hc, hcl, hclt, rfl, hmany, f, hf, hloop⟩
        have hpos : 0 < cs.length := by omega
        have hmx : maxOf cs < F.length := by
          have := (maxOf_le cs 0 (F.length - 1)).mpr ⟨Nat.zero_le _, fun x hx => by have := hclt x hx; omega⟩
          unfold maxOf
          omega
        refine ⟨_, rfl, _, rfl, ?_⟩
        dsimp only [tNil]
        refine max_run hc hpos ?_
        refine ⟨_, _, rfl, rfl, _, rfl, ?_⟩
        cases f with
        | zero => omega
        | succ f =>
          unfold alikeLoop at hloop
          by_cases hle : many ≤ maxOf cs
          · rw [if_pos (decide_eq_true (by omega))]
            rw [if_pos hle] at hloop
            refine ⟨_, fun σ' H' h => h, ?_⟩
            refine ⟨_, rfl, ?_⟩
            dsimp only [tNil]
            refine max_run hc hpos ?_
            refine ⟨_, _, rfl, rfl, ?_⟩
            refine ⟨_, rfl, _, rfl, ?_⟩
            refine ⟨c, b, cs, F, rfl, hc, Same.form s3 hF, hcl, hz, hin, fun p H4 s4 np hp4 => ?_⟩
            refine ⟨_, ?_, p, maxOf cs + 1, _, v3, v4, rfl, s3.trans s4, s3.free np, hp4, part_len hcl, fun x hx => ?_, rfl, by omega, f, by omega, hloop⟩
            · omega
            · have := numb_lt' hx
              rwa [partKeys_len hcl] at this
          · rw [if_neg (by simp; omega)]
            rw [if_neg hle] at hloop
            rw [← hloop] at k
            exact ⟨_, rfl, k c H3 s3 nc hc⟩
end
end Law
end

section
set_option Elab.async false
set_option linter.all false
set_option maxRecDepth 100000
set_option maxHeartbeats 4000000
namespace Law
open PySem PySem.Spec PyProof.Rows L2 LamX QB QM
section
variable {P : Program} {w : World} {K : PySem.W.Frag} {mg : Str → Option Value} {base : Heap}
def keysOf (cs met : List Nat) : List L2.Key := met.map fun m => (Sum.inl ((clsOf cs m : Nat) : Int) : L2.Key)
theorem mem_keysOf {cs met : List Nat} {n : Nat} : (Sum.inl ((clsOf cs n : Nat) : Int) : L2.Key) ∈ keysOf cs met ↔ clsOf cs n ∈ met.map (clsOf cs) := by
  unfold keysOf
  rw [List.mem_map, List.mem_map]
  constructor
  · rintro ⟨m, hm, e⟩
    exact ⟨m, hm, by have := Sum.inl.inj e; omega⟩
  · rintro ⟨m, hm, e⟩
    exact ⟨m, hm, by rw [e]⟩
theorem idx_keysOf {cs : List Nat} {n : Nat} (met : List Nat) : (@List.idxOf L2.Key instBEqOfDecidableEq (Sum.inl ((clsOf cs n : Nat) : Int)) (keysOf cs met)) = (met.map (clsOf cs)).idxOf (clsOf cs n) := by
  have e := QD.idxOf_map_inj (κ := L2.Key) (fun c : Nat => Sum.inl (c : Int)) (fun a b h => by have := Sum.inl.inj h; omega) (clsOf cs n) (met.map (clsOf cs))
  rw [List.map_map] at e
  exact e
theorem clsOf_get {cs : List Nat} {n : Nat} (h : n < cs.length) : cs[n]? = some (clsOf cs n) := by
  unfold clsOf
  rw [List.getD_eq_getElem?_getD, List.getElem?_eq_getElem h]
  rfl
/-- one more way looked at -/
theorem keysOf_snoc (cs met : List Nat) (n : Nat) : keysOf cs (met ++ [n]) = keysOf cs met ++ [Sum.inl ((clsOf cs n : Nat) : Int)] := by
  unfold keysOf
  rw [List.map_append]
  rfl
theorem keysOf_len (cs met : List Nat) : (keysOf cs met).length = met.length := List.length_map _
/-- the word of the m-th standing of a form of one's own -/
def wAd (Lb : List Tri) (m : Nat) : Addr := ((Lb[m]?).map fun x => x.2.1).getD 0
theorem wAd_of {Lb : List Tri} {m : Nat} {x : Tri} (h : Lb[m]? = some x) : wAd Lb m = x.2.1 := by
  unfold wAd
  rw [h]
  rfl
theorem inner_cons (x : Tri) (L : List Tri) : inner (x :: L) = x.2.1 :: x.2.2 :: inner L := rfl
theorem wAd_mem {Lb : List Tri} {m : Nat} (h : m < Lb.length) : wAd Lb m ∈ inner Lb := by
  have e := List.getElem?_eq_getElem h
  rw [wAd_of e]
  exact List.mem_flatMap.mpr ⟨_, List.getElem_mem h, by simp⟩
theorem wAd_inj : ∀ {Lb : List Tri} {i j : Nat}, (inner Lb).Nodup → i < Lb.length → j < Lb.length → wAd Lb i = wAd Lb j → i = j
  | [], i, j, _, h, _, _ => absurd h (Nat.not_lt_zero _)
  | x :: Lb, 0, 0, _, _, _, _ => rfl
  | x :: Lb, 0, j + 1, nd, _, hj, e => by
    rw [inner_cons, List.nodup_cons] at nd
    have hm := wAd_mem (Lb := Lb) (m := j) (by simpa using hj)
    have e' : x.2.1 = wAd Lb j := e
    exact absurd (by rw [e']; exact List.mem_cons_of_mem _ hm) nd.1
  | x :: Lb, i + 1, 0, nd, hi, _, e => by
    rw [inner_cons, List.nodup_cons] at nd
    have hm := wAd_mem (Lb := Lb) (m := i) (by simpa using hi)
    have e' : wAd Lb i = x.2.1 := e
    exact absurd (by rw [← e']; exact List.mem_cons_of_mem _ hm) nd.1
  | x :: Lb, i + 1, j + 1, nd, hi, hj, e => by
    rw [inner_cons, List.nodup_cons, List.nodup_cons] at nd
    have e' : wAd Lb i = wAd Lb j := e
    rw [wAd_inj nd.2.2 (by simpa using hi) (by simpa using hj) e']
/-- one more standing, with a word that stood already -/
theorem newL_snoc {H0 H H' : Hp} {L : List Tri} {F : Form} {t a b : Addr} {s : Std} (n : NewL H0 H L F) (e : Same H H') (ha : a ∉ inner L) (hb : H b = none) (hab : a ≠ b) (h1 : H' t = some (.tup [.ref a, .ref b])) (h2 : WordAt H' a s.1) (h3 : WaysAt H' b s.2) (f1 : Fresh H0 t) (f2 : Fresh H0 a) (f3 : Fresh H0 b) :
    NewL H0 H' (L ++ [(t, a, b)]) (F ++ [s]) := by
  have hap : ∀ x ∈ inner L, ∀ y ∈ inner [(t, a, b)], x ≠ y := by
    intro x hx y hy z
    subst z
    rcases List.mem_cons.mp hy with hy | hy
    · rw [hy] at hx
      exact ha hx
    · rw [List.mem_singleton.mp hy] at hx
      obtain ⟨xs, hxs⟩ := n.there hx
      rw [hb] at hxs
      cases hxs
  have hone : (inner [(t, a, b)]).Nodup := by
    show [a, b].Nodup
    simp [hab]
  have hnd : (inner L ++ inner [(t, a, b)]).Nodup := List.nodup_append.mpr ⟨n.nd, hone, hap⟩
  refine ⟨Paired.snoc (n.same e).at_ ⟨h1, h2, h3⟩, fun x hx => ?_, by rw [inner_append]; exact hnd⟩
  rcases List.mem_append.mp hx with hx | hx
  · exact n.new x hx
  · rw [List.mem_singleton.mp hx]
    exact ⟨f1, f2, f3⟩
/-- where the words of what is told stand -/
structure Told (H : Hp) (Lb : List Tri) (met : List Nat) (L : List Tri) : Prop where
  words : L.map (fun x => x.2.1) = (met.take L.length).map (wAd Lb)
  ways : ∀ x ∈ L, H x.2.2 = none
theorem Told.out {H : Hp} {Lb : List Tri} {met : List Nat} {L : List Tri} {F : Form} {cs : List Nat} (T : Told H Lb met L) (nd : (inner Lb).Nodup) (hl : Lb.length = F.length) (M : Met F cs met) {k m : Nat} (hk : L.length = k) (hm : met[k]? = some m) {u : HO} (hu : H (wAd Lb m) = some u) : wAd Lb m ∉ inner L := fun h => by
  obtain ⟨x, hx, hq⟩ := mem_inner h
  rcases hq with hq | hq
  · have h1 : x.2.1 ∈ L.map (fun x => x.2.1) := List.mem_map.mpr ⟨x, hx, rfl⟩
    rw [T.words] at h1
    obtain ⟨m', h2, h3⟩ := List.mem_map.mp h1
    obtain ⟨j, hj, e⟩ := List.mem_iff_getElem.mp h2
    rw [List.length_take] at hj
    rw [List.getElem_take] at e
    have hjm : j < met.length := by omega
    have e2 : met[j]? = some m' := by rw [List.getElem?_eq_getElem hjm, e]
    have l1 := M.lt m (List.mem_of_getElem? hm)
    have l2 := M.lt m' (List.mem_of_getElem? e2)
    have e3 := wAd_inj nd (by omega) (by omega) (h3.trans hq.symm)
    subst e3
    have nm : met.Nodup := (List.pairwise_map.mp M.nd).imp fun h e => h (congrArg _ e)
    have := nd_ix nm e2 hm
    omega
  · rw [hq, T.ways x hx] at hu
    cases hu
theorem Told.snoc {H : Hp} {Lb : List Tri} {met m6 tl : List Nat} {L : List Tri} {k m : Nat} {t b : Addr} (T : Told H Lb met L) (hk : L.length = k) (hm : met[k]? = some m) (h6 : m6 = met ++ tl) (hb : H b = none) : Told H Lb m6 (L ++ [(t, wAd Lb m, b)]) := by
  subst hk
  have hlt : L.length < met.length := (List.getElem?_eq_some_iff.mp hm).1
  refine ⟨?_, fun x hx => ?_⟩
  · rw [List.map_append, T.words, h6, List.length_append, List.length_singleton, List.take_append_of_le_length (by omega), List.take_succ, hm, List.map_append]
    rfl
  · rcases List.mem_append.mp hx with hx | hx
    · exact T.ways x hx
    · rw [List.mem_singleton.mp hx]
      exact hb
def spInOrder : Sp := fun vs H Q _ => ∃ (b a : Addr) (F : Form) (cs : List Nat) (H0 : Hp) (Lb : List Tri), vs = [.ref b, .ref a] ∧ NewF H0 H b Lb F ∧ (∀ q, H q = none → Fresh H0 q) ∧ IntsAt H a cs ∧ cs.length = F.length ∧ 0 < F.length ∧ F.length ≤ 5000 ∧ WaysIn F ∧
  ∀ (p : Addr) (L : List Tri) (H' : Hp), Same H H' → NewF H0 H' p L (inOrder F cs) → Q (.ref p) H'
theorem ok_in_order_met (X : TX K mg) : FnOk P w K mg base CX0 1 X.d_in_order_met.a X.d_in_order_met.fd ["standings", "classes"] spInOrder := by
  have nd := sc_in_order_met.nd
  refine X.d_in_order_met.F.ok sc_in_order_met (fun vs H Q E h => ?_) (fun cdv A outer s H vs Q E hr h => ?_)
  · obtain ⟨b, a, F, cs, H0, Lb, rfl, _⟩ := h
    rfl
  · obtain ⟨b, a, F, cs, H0, Lb, rfl, nF, fr0, hc, hlen, hp, hz, hin, k⟩ := h
    refine ⟨_, (pss_cons (ps_set (i := 2) nd rfl (Or.inr rfl) (pe_disp (pps_cons (pe_ix (QB.ix_listK K) (pv 1) pe_int (fun _ _ => rfl)) pe_int pps_nil) (by rfl) (by rfl) (fun z => by cases z) (by decide))) (pss_cons (ps_set (i := 3) nd rfl (Or.inl rfl) (pe_lst (pa_cons pe_int pa_nil))) (pss_cons (ps_set (i := 4) nd rfl (Or.inl rfl) (pe_lst pa_nil)) (pss_cons (ps_while PassesOwn.never (pt_cmpR op_lt (pe_callB (QB.call_lenK K) (by rfl) X.n_len PySem.boot_len (pa_cons (pv 4) pa_nil)) (pe_callB (QB.call_lenK K) (by rfl) X.n_len PySem.boot_len (pa_cons (pv 3) pa_nil)) (nomark _)) (pss_cons (ps_asg (pe_ix (QB.ix_listK K) (pv 0) (pe_ix (QB.ix_listK K) (pv 3) (pe_callB (QB.call_lenK K) (by rfl) X.n_len PySem.boot_len (pa_cons (pv 4) pa_nil)) (fun _ _ => rfl)) (fun _ _ => rfl)) (pg_tup (by rfl) (pgs_cons (pg_name (i := 5) nd rfl (Or.inl rfl)) (pgs_cons (pg_name (i := 6) nd rfl (Or.inl rfl)) (pgs_nil))))) (pss_cons (ps_for PassesOwn.never rfl (QB.pi_listK K (pv 6)) (pg_name (i := 7) nd rfl (Or.inl rfl)) (pss_one (ps_if (PW.pt (pw_and (pt_cmpR op_notN (pv 7) pe_non (nomark _)) (pw_and1 (pt_cmp (pc_dnotin (hu_of hr) (pe_ix (QB.ix_listK K) (pv 1) (pv 7) (fun _ _ => rfl)) (pv 2)))))) (pss_cons (ps_dput (hu_of hr) (pv 2) (pe_ix (QB.ix_listK K) (pv 1) (pv 7) (fun _ _ => rfl)) (pe_callB (QB.call_lenK K) (by rfl) X.n_len PySem.boot_len (pa_cons (pv 3) pa_nil)) rfl) (pss_one (ps_expr (QB.pe_bmK K PySem.F.plainAttrs_list PySem.F.slot_list_append PySem.F.type_list_append mt_append (pv 3) (pa_cons (pv 7) pa_nil))))) pss_nil))) (pss_one (ps_expr (QB.pe_bmK K PySem.F.plainAttrs_list PySem.F.slot_list_append PySem.F.type_list_append mt_append (pv 4) (pa_cons (pe_tup (pa_cons (pv 5) (pa_cons (pe_lc (own := [("way", 7)]) (g := gName 7) (tt := tYes) rfl nd (QB.pi_listK K (pv 6)) (blkOk_by (N := ["standings", "classes", "numbers", "met", "told", "beside", "ways", "way"]) (sc := defScope s_in_order_met) (by decide +kernel)) (fun _ _ _ _ _ => pg_name (i := 7) nd rfl (Or.inl rfl)) (fun _ _ _ _ _ => pts_nil) (fun _ _ _ _ _ => (pe_ifExp (pt_cmpR op_isN (pv 7) pe_non (nomark _)) pe_non (pe_dget (hu_of hr) (pv 2) (pe_ix (QB.ix_listK K) (pv 1) (pv 7) (fun _ _ => rfl)) (fun _ _ => rfl))))) pa_nil))) pa_nil))))))) (pss_one (ps_ret (pv 4))))))), ?_⟩
    try dsimp only [Cx.nox, Cx.wish, cxOf]
    have hF := nF.form
    have hLb := nF.all.len
    refine fun d hd => ?_
    have s1 : Same H (upd H d (.dK [])) := same_new hd
    refine ⟨_, rfl, _, _, _, _, rfl, rfl, SqL.of (Same.ints s1 hc), atI_nat (j := 0) (ints_get (clsOf_get (by omega))), upd_same, [(Sum.inl ((clsOf cs 0 : Nat) : Int), .int 0)], rfl, by show 1 ≤ 15; decide, ?_⟩
    rw [upd_upd]
    have s2 : Same H (upd H d (.dK (L2.mergeK [] [(Sum.inl ((clsOf cs 0 : Nat) : Int), .int 0)]))) := same_new hd
    refine ⟨by show 1 ≤ sizeLine; decide, fun l hl => ?_⟩
    have s3 := Same.new s2 (o := .lst [V.int 0]) hl
    refine ⟨Nat.zero_le _, fun t ht => ?_⟩
    have s4 := Same.new s3 (o := .lst []) ht
    have ndl : d ≠ l := ne_of_none upd_same hl
    have nlt : l ≠ t := ne_of_none upd_same ht
    have ndt : d ≠ t := ne_of_none ((upd_ne ndl).trans upd_same) ht
    refine ⟨fun m σ H' => ∃ (met : List Nat) (told : Form) (L : List Tri) (v5 v6 v7 : Option V), σ = [some (.ref b), some (.ref a), some (.ref d), some (.ref l), some (.ref t), v5, v6, v7] ∧ Same H H' ∧ H' d = some (.dK (QD.dictFrom 0 (keysOf cs met))) ∧ IntsAt H' l met ∧
      H' t = some (.lst (L.map fun x => V.ref x.1)) ∧ NewL H0 H' L told ∧ Told H Lb met L ∧ t ∉ inner L ∧ l ∉ inner L ∧ Met F cs met ∧ told.length ≤ met.length ∧ m = F.length - told.length ∧ ∃ f, F.length + 1 ≤ f + told.length ∧ orderLoop F cs f met told = inOrder F cs,
      ⟨_, [0], [], [], none, none, none, rfl, s4, ?_, ?_, upd_same, NewL.nil, ⟨rfl, fun _ h => nomatch h⟩, by simp [inner], by simp [inner], ⟨by simp, fun m hm => ?_⟩, by simp, rfl, _, Nat.le_refl _, rfl⟩, ?_⟩
    · rw [upd_ne ndt, upd_ne ndl, upd_same]
      rfl
    · exact (upd_ne nlt).trans upd_same
    · rw [List.mem_singleton.mp hm]
      exact hp
    · have d0 := hd
      have l0 : H l = none := s2.free hl
      have t0 : H t = none := s3.free ht
      rintro m σ H1 ⟨met, told, L, v5, v6, v7, rfl, s5, hD, hM, hT, nL, tl_, oT, oL, met_, htm, rfl, f, hf, hloop⟩
      have hLl := nL.len
      have hml := met_.len
      refine ⟨_, rfl, _, _, rfl, .inl (SqL.of hT), _, rfl, _, _, rfl, .inl (SqL.of hM), _, _, rfl, rfl, _, rfl, ?_⟩
      rw [List.length_map, List.length_map, hLl]
      cases f with
      | zero => omega
      | succ f =>
        unfold orderLoop at hloop
        by_cases hlt : told.length < met.length
        · rw [if_pos (decide_eq_true (by omega))]
          rw [if_pos hlt] at hloop
          refine ⟨_, fun σ' H' h => h, ?_⟩
          have hmt : met[told.length]? = some (met.getD told.length 0) := by
            rw [List.getD_eq_getElem?_getD, List.getElem?_eq_getElem hlt]
            rfl
          have hmF : met.getD told.length 0 < F.length := met_.lt _ (List.mem_of_getElem? hmt)
          generalize met.getD told.length 0 = mm at hloop hmt hmF
          have hFm := stdOf_get hmF
          generalize stdOf F mm = sd at hloop hFm
          have hsin := hin sd (mem_of hFm)
          obtain ⟨xb, hxb, f4, f5, f6⟩ := nF.all.get hFm
          have f1 := nF.lst
          have f3 : (Lb.map fun x => V.ref x.1)[mm]? = some (.ref xb.1) := by rw [List.getElem?_map, hxb]; rfl
          have ew := wAd_of hxb
          have fw : Fresh H0 xb.2.1 := (nF.all.new xb (List.mem_of_getElem? hxb)).2.1
          have ow := Told.out tl_ nF.all.nd hLb met_ hLl hmt (u := .lst (vS sd.1)) (by rw [ew]; exact f5)
          rw [ew] at ow
          obtain ⟨tt, p1, p2⟩ := xb
          have f3 : (Lb.map fun x => V.ref x.1)[mm]? = some (.ref tt) := f3
          have f4 : H tt = some (.tup [.ref p1, .ref p2]) := f4
          have f5 : WordAt H p1 sd.1 := f5
          have f6 : WaysAt H p2 sd.2 := f6
          have ow : p1 ∉ inner L := ow
          have fw : Fresh H0 p1 := fw
          have ew : wAd Lb mm = p1 := ew
          -- word, ways = standings[met[len(told)]]
          refine ⟨_, rfl, _, rfl, _, rfl, _, _, rfl, .inl (SqL.of hT), ?_⟩
          rw [List.length_map, hLl]
          refine ⟨_, _, _, _, rfl, rfl, SqL.of hM, atI_nat (ints_get hmt), _, _, _, _, rfl, rfl, SqL.of (s5 _ _ f1), atI_nat f3, ?_⟩
          refine ⟨tt, _, rfl, SqT.of (s5 _ _ f4), rfl, _, _, rfl, _, _, rfl, rfl, ?_⟩
          -- for way in ways
          refine ⟨_, rfl, _, rfl, ⟨_, SqL.of (Same.ways s5 f6)⟩, ?_⟩
          refine for_it (walk_listWs (K := K) (a := p2) (ws := sd.2)) (fun i σ H' => ∃ (v7 : Option V), σ = [some (.ref b), some (.ref a), some (.ref d), some (.ref l), some (.ref t), some (.ref p1), some (.ref p2), v7] ∧ Same H H' ∧ H' d = some (.dK (QD.dictFrom 0 (keysOf cs (visitAll cs met (sd.2.take i))))) ∧
            IntsAt H' l (visitAll cs met (sd.2.take i)) ∧ H' t = some (.lst (L.map fun x => V.ref x.1)) ∧ NewL H0 H' L told) ⟨_, rfl, s5, hD, hM, hT, nL⟩ (fun i σ H' _ ⟨_, _, s6, _⟩ => Same.ways s6 f6) ?_ ?_
          · rintro i x σ H2 H3 hi ⟨v7, rfl, s6, hD6, hM6, hT6, nL6⟩ ⟨y, hy, rfl, rfl⟩
            have htk : sd.2.take (i + 1) = sd.2.take i ++ [y] := by rw [List.take_succ, hy]; rfl
            have hyF : ∀ n, y = some n → n < F.length := fun n e => hsin.2 n (by rw [← e]; exact List.mem_of_getElem? hy)
            have metI : Met F cs (visitAll cs met (sd.2.take i)) := met_.visitAll fun n hn => hsin.2 n (List.mem_of_mem_take hn)
            have hvs : visitAll cs met (sd.2.take (i + 1)) = visit cs (visitAll cs met (sd.2.take i)) y := by
              rw [htk]
              unfold visitAll
              rw [List.foldl_append]
              rfl
            generalize visitAll cs met (sd.2.take i) = mi at hD6 hM6 metI hvs
            have hmi := metI.len
            refine ⟨_, rfl, rfl, _, rfl, ?_⟩
            rw [vW_is]
            cases y with
            | none =>
              refine iteF ?_
              refine ⟨_, rfl, s6, ?_, ?_, hT6, nL6⟩
              · rw [hvs]
                exact hD6
              · rw [hvs]
                exact hM6
            | some n =>
              have hn := hyF n rfl
              have hcn := ints_get (clsOf_get (cs := cs) (n := n) (by omega))
              refine iteT ?_
              refine ⟨_, rfl, _, rfl, _, _, _, _, rfl, rfl, SqL.of (Same.ints s6 hc), atI_nat hcn, _, rfl, d, _, rfl, DGet.k (k := Sum.inl ((clsOf cs n : Nat) : Int)) hD6, _, rfl, ?_⟩
              rw [QD.valV_dictFrom]
              by_cases hmem : clsOf cs n ∈ mi.map (clsOf cs)
              · rw [if_pos (mem_keysOf.mpr hmem)]
                refine ⟨_, rfl, s6, ?_, ?_, hT6, nL6⟩
                · rw [hvs]
                  simp only [visit, if_pos hmem]
                  exact hD6
                · rw [hvs]
                  simp only [visit, if_pos hmem]
                  exact hM6
              · rw [if_neg (fun z => hmem (mem_keysOf.mp z))]
                have hnd := metI.visit (w := some n) hyF
                have hvn : visit cs mi (some n) = mi ++ [n] := by simp only [visit, if_neg hmem]
                refine ⟨_, rfl, _, _, rfl, .inl (SqL.of hM6), ?_⟩
                refine ⟨_, rfl, _, rfl, _, rfl, _, _, _, _, rfl, rfl, SqL.of (Same.ints s6 hc), atI_nat hcn, d, _, rfl, DPut.k (k := Sum.inl ((clsOf cs n : Nat) : Int)) hD6 (sz_lt (by rw [QD.dictFrom_len, keysOf_len]; omega)), ?_⟩
                have s7 := Same.mut (p := d) (o := .dK (putK (QD.dictFrom 0 (keysOf cs mi)) (Sum.inl ((clsOf cs n : Nat) : Int)) (.int ((mi.map fun (n : Nat) => V.int (n : Int)).length : Nat)))) s6 d0
                have hM7 := (upd_ne (a := d) (o := .dK (putK (QD.dictFrom 0 (keysOf cs mi)) (Sum.inl ((clsOf cs n : Nat) : Int)) (.int ((mi.map fun (n : Nat) => V.int (n : Int)).length : Nat)))) (ne_of hM6 hD6 (fun z => nomatch z))).trans hM6
                refine ⟨_, rfl, .inl ⟨rfl, _, SqL.of hM7⟩, _, rfl, l, _, _, rfl, rfl, hM7, sz_lt (by rw [List.length_map]; omega), ?_⟩
                refine ⟨_, rfl, Same.mut s7 l0, ?_, ?_, ?_, ?_⟩
                · rw [upd_ne (ne_of hD6 hM6 (fun z => nomatch z)), upd_same, hvs, hvn, keysOf_snoc, List.length_map]
                  have e := QD.putK_dictFrom (n := 0) (l := keysOf cs mi) (k := (Sum.inl ((clsOf cs n : Nat) : Int) : L2.Key)) (fun z => hmem (mem_keysOf.mp z))
                  rw [Nat.zero_add, keysOf_len] at e
                  rw [e]
                · rw [hvs, hvn]
                  unfold IntsAt
                  rw [upd_same, List.map_append]
                  rfl
                · exact (upd_ne nlt.symm).trans ((upd_ne ndt.symm).trans hT6)
                · exact NewL.upd (nL6.updD hD6) hM7 oL
          · rintro σ H2 ⟨v7, rfl, s6, hD6, hM6, hT6, nL6⟩
            rw [List.take_length] at hD6 hM6
            have met6 : Met F cs (visitAll cs met sd.2) := met_.visitAll fun n hn => hsin.2 n hn
            have hhas := fun n hn => visitAll_has cs sd.2 met n hn
            have hpre := visitAll_pre cs sd.2 met
            generalize visitAll cs met sd.2 = m6 at hD6 hM6 met6 hhas hpre hloop
            have hm6 := met6.len
            have hwf := f5
            -- told.append((list(word), [..]))
            refine ⟨_, rfl, .inl ⟨rfl, _, SqL.of hT6⟩, ?_⟩
            refine ⟨_, rfl, _, rfl, _, rfl, ⟨_, SqL.of (Same.ways s6 f6)⟩, fun q2 hq2 => ?_⟩
            refine lc_map (walk_listWs (K := K) (a := p2) (ws := sd.2)) hq2 (by have := hsin.1; omega) (fun H3 s8 => Same.ways (s6.trans s8) f6) (fun j => vW (newWay cs m6 (sd.2[j]?).join)) ?_ ?_
            · rintro j x H3 H4 kk hj s8 ⟨y, hy, rfl, rfl⟩ hk
              have hk' := hk H4 (Same.refl H4)
              rw [hy] at hk'
              refine ⟨rfl, _, rfl, rfl, _, rfl, ?_⟩
              rw [vW_is]
              cases y with
              | none => exact iteT hk'
              | some n =>
                have hns := List.mem_of_getElem? hy
                have hn := hsin.2 n hns
                refine iteF ⟨_, rfl, _, rfl, _, rfl, _, _, _, _, rfl, rfl, SqL.of (Same.ints (s6.trans s8) hc), atI_nat (ints_get (clsOf_get (by omega))), d, _, rfl, (by
                  have e := DGet.k (k := (Sum.inl ((clsOf cs n : Nat) : Int) : L2.Key)) (s8 _ _ hD6)
                  rw [QD.valV_dictFrom, if_pos (mem_keysOf.mpr (hhas n hns)), idx_keysOf, Nat.zero_add] at e
                  exact e), hk'⟩
            · intro H3 s8 hq3
              rw [range_map_get _ sd.2 (fun w => vW (newWay cs m6 w)) (fun j x hx => by rw [hx]; rfl)] at hq3
              refine ⟨by show 2 ≤ sizeLine; decide, fun q3 hq3' => ?_⟩
              have s9 := Same.new s8 (o := .tup [V.ref p1, V.ref q2]) hq3'
              have s10 := s6.trans s9
              have n2 : H2 q2 = none := hq2
              have n3 : H2 q3 = none := s8.free hq3'
              have n2' : H q2 = none := s6.free n2
              have e1 : WordAt (upd H3 q3 (.tup [V.ref p1, V.ref q2])) p1 sd.1 := Same.word s10 f5
              have e2 : (upd H3 q3 (.tup [V.ref p1, V.ref q2])) q2 = some (.lst (vWs (newStd cs m6 sd).2)) := by
                rw [upd_ne (ne_of_none hq3 hq3'), hq3]
                unfold vWs newStd
                rw [List.map_map]
                rfl
              have nq12 : p1 ≠ q2 := ne_of_none f5 n2'
              have nn := newL_snoc nL6 s9 ow n2 nq12 (t := q3) (s := newStd cs m6 sd) upd_same e1 e2 (fr0 _ (s6.free n3)) fw (fr0 _ n2')
              have oT' := not_inner_snoc (t := q3) oT (ne_of_none f5 t0).symm (ne_of_none hT6 n2)
              have oL' := not_inner_snoc (t := q3) oL (ne_of_none f5 l0).symm (ne_of_none hM6 n2)
              have hT9 := s9 _ _ hT6
              refine ⟨t, _, _, rfl, rfl, hT9, sz_lt (by rw [List.length_map]; omega), ?_⟩
              obtain ⟨tl, hpre⟩ := hpre
              have hlen6 : met.length ≤ m6.length := by rw [hpre, List.length_append]; omega
              refine ⟨_, ?_, m6, told ++ [newStd cs m6 sd], L ++ [(q3, p1, q2)], _, _, _, rfl, Same.mut s10 t0, ?_, ?_, ?_, nn.upd hT9 oT', by rw [← ew]; exact tl_.snoc hLl hmt hpre n2', oT', oL', met6, ?_, rfl, f, ?_, hloop⟩
              · rw [List.length_append, List.length_singleton]
                omega
              · exact (upd_ne ndt).trans (s9 _ _ hD6)
              · exact (upd_ne nlt).trans (s9 _ _ hM6)
              · rw [upd_same, List.map_append]
                rfl
              · rw [List.length_append, List.length_singleton]
                omega
              · rw [List.length_append, List.length_singleton]
                omega
        · rw [if_neg (by simp; omega)]
          rw [if_neg hlt] at hloop
          rw [← hloop] at k
          exact ⟨_, rfl, k t L H1 s5 ⟨hT, nL, fr0 _ t0, oT⟩⟩
end
end Law
end

section
set_option Elab.async false
set_option linter.all false
set_option maxRecDepth 100000
set_option maxHeartbeats 8000000
namespace Law
open PySem PySem.Spec PyProof.Rows L2 LamX QB QM
abbrev Tof {K : PySem.W.Frag} {mg : Str → Option Value} (X : TX K mg) : List (Addr × Str) := [(X.lam_P, ("without_needless_ways" : Str) ++ ".<locals>." ++ "<lambda>")]
section
variable {P : Program} {w : World} {K : PySem.W.Frag} {mg : Str → Option Value} {base : Heap}
theorem rep_flat (n : Nat) (x : V) : (List.replicate n [x]).flatten = List.replicate n x := by
  induction n with
  | zero => rfl
  | succ n ih => rw [List.replicate_succ, List.flatten_cons, ih, List.replicate_succ]; rfl
theorem ixN_of {n j : Nat} (h : j < n) : ixN n (j : Int) = some j := by
  unfold ixN
  rw [if_pos (by omega), if_pos (by omega), Int.toNat_natCast]
theorem set_same {α : Type} {l : List α} {k : Nat} {x : α} (h : l[k]? = some x) : l.set k x = l := by
  refine List.ext_getElem? fun i => ?_
  by_cases e : k = i
  · subst e
    rw [List.getElem?_set_self (List.getElem?_eq_some_iff.mp h).1, h]
  · rw [List.getElem?_set_ne e]
theorem vWs_set (ws : Ways) (k : Nat) (w : Option Nat) : (vWs ws).set k (vW w) = vWs (ws.set k w) := (List.map_set ..).symm
theorem tri_get {L : List Tri} {k : Nat} {x : Tri} (h : L[k]? = some x) : (L.map fun x => V.ref x.1)[k]? = some (.ref x.1) := by
  rw [List.getElem?_map, h]
  rfl
/-- tags that are texts, words of tags -/
structure WordsOk (tags : List Str) (F : Form) : Prop where
  txt : ∀ t ∈ tags, PyData.strOk t = true
  sub : ∀ s ∈ F, ∀ t ∈ s.1, t ∈ tags
  len : ∀ s ∈ F, s.1.length ≤ 5000
theorem WordsOk.ok {tags : List Str} {F : Form} (o : WordsOk tags F) {k : Nat} {s : Std} (h : F[k]? = some s) : ∀ t ∈ s.1, PyData.strOk t = true := fun t ht => o.txt t (o.sub s (mem_of h) t ht)
def spNeedless (T : List (Addr × Str)) : Sp := fun vs H Q _ => ∃ (a b : Addr) (tags : List Str) (F : Form), vs = [.ref a, .ref b] ∧ WordAt H a tags ∧ FormAt H b F ∧ Good tags F ∧ WordsOk tags F ∧ tags.length ≤ 100 ∧ Tabs T H ∧
  ∀ (p : Addr) (L : List Tri) (H' : Hp), Ext T H H' → Tabs T H' → NewF H H' p L (needless tags F) → Q (.ref p) H'
theorem ok_without_needless_ways (X : TX K mg) (TB : LamX.TabB base mg X.lam_c X.lam_P) : FnOk P w K mg base CX0 2 X.d_without_needless_ways.a X.d_without_needless_ways.fd ["tags", "standings"] (spNeedless (Tof X)) := by
  have nd := sc_without_needless_ways.nd
  refine X.lam_F.ok sc_without_needless_ways (fun vs H Q E h => ?_) (fun A outer s H vs Q E hr h => ?_)
  · obtain ⟨a, b, tags, F, rfl, _⟩ := h
    rfl
  · obtain ⟨a, b, tags, F, rfl, hT, hF, g, ok, htl, tb, k⟩ := h
    refine ⟨_, (pss_cons (ps_set (i := 2) nd rfl (Or.inl rfl) (pe_call (ok_copied X) (hr.mono (by decide)) rfl X.d_copied.mg X.d_copied.F.kp X.d_copied.b .nil pass0 (pa_cons (pv 1) pa_nil))) (pss_cons (ps_set (i := 3) nd rfl (Or.inl rfl) (pe_op op_rep (pe_lst (pa_cons pe_bl pa_nil)) (pe_callB (QB.call_lenK K) (by rfl) X.n_len PySem.boot_len (pa_cons (pv 1) pa_nil)))) (pss_cons (ps_for PassesOwn.never rfl (QB.pi_listK K (QL.pe_sortLamK (i := 1) (T := Tof X) K (by rfl) X.n_sorted X.n_len (QL.pe_range1 (by rfl) X.n_range (pe_callB (QB.call_lenK K) (by rfl) X.n_len PySem.boot_len (pa_cons (pv 1) pa_nil))) rfl rfl TB rfl (List.mem_singleton.mpr rfl) (fun p hp _ => by cases List.mem_singleton.mp hp; rfl) hr)) (pg_name (i := 4) nd rfl (Or.inl rfl)) (pss_cons (ps_asg (pe_ix (QB.ix_listK K) (pv 2) (pv 4) (fun _ _ => rfl)) (pg_tup (by rfl) (pgs_cons (pg_name (i := 5) nd rfl (Or.inl rfl)) (pgs_cons (pg_name (i := 6) nd rfl (Or.inl rfl)) (pgs_nil))))) (pss_cons (ps_for PassesOwn.never rfl (QB.pi_enumK K (by rfl) X.n_enumerate (pa_cons (pv 0) pa_nil)) (pg_tup (by rfl) (pgs_cons (pg_name (i := 7) nd rfl (Or.inl rfl)) (pgs_cons (pg_name (i := 8) nd rfl (Or.inl rfl)) (pgs_nil)))) (pss_cons (ps_set (i := 9) nd rfl (Or.inl rfl) (pe_ix (QB.ix_listK K) (pv 6) (pv 7) (fun _ _ => rfl))) (pss_one (ps_if (PW.pt (pw_and (pt_cmpR op_notN (pv 9) pe_non (nomark _)) (pw_and (pt_val (pe_ix (QB.ix_listK K) (pv 3) (pv 9) (fun _ _ => rfl))) (pw_and1 (pt_cmpR (QB.op_eqDK K hr.units) (pe_ix (QB.ix_tupK K) (pe_ix (QB.ix_listK K) (pv 1) (pv 9) (fun _ _ => rfl)) pe_int (fun _ _ => rfl)) (pe_op op_cat (pv 5) (pe_lst (pa_cons (pv 8) pa_nil))) (nomark _)))))) (pss_one (ps_asg pe_non (pg_sub (pv 6) (pv 7) set_list))) pss_nil)))) (pss_one (ps_asg (pe_call (ok_is_settled_at X) (hr.mono (by decide)) rfl X.d_is_settled_at.mg X.d_is_settled_at.F.kp X.d_is_settled_at.b .nil pass0 (pa_cons (pe_ix (QB.ix_listK K) (pv 2) (pv 4) (fun _ _ => rfl)) pa_nil)) (pg_sub (pv 3) (pv 4) set_list)))))) (pss_one (ps_ret (pv 2)))))), ?_⟩
    try dsimp only [Cx.nox, Cx.wish, cxOf]
    have hlen := g.pos
    have hsm := g.small
    -- needed = copied(standings); settled = [False] * len(standings)
    refine ⟨_, rfl, b, F, rfl, hF, by omega, fun p L H1 s1 nF => ?_⟩
    obtain ⟨vs1, hv1, hvl1⟩ := FormAt.lst (Same.form s1 hF)
    refine ⟨by show 1 ≤ sizeLine; decide, fun q0 hq0 => ?_⟩
    have s2 := Same.new s1 (o := .lst [V.bl false]) hq0
    refine ⟨_, rfl, _, _, rfl, .inl (SqL.of ((same_new hq0) _ _ hv1)), ?_⟩
    refine ⟨_, _, _, rfl, rfl, upd_same, by omega, by omega, by rw [Int.toNat_natCast, hvl1]; exact sz_le (by simp; omega), fun q hq => ?_⟩
    rw [Int.toNat_natCast, hvl1, rep_flat]
    have s3 := Same.new s2 (o := .lst (List.replicate F.length (V.bl false))) hq
    have s13 : Same H1 (upd (upd H1 q0 (.lst [V.bl false])) q (.lst (List.replicate F.length (V.bl false)))) := Same.new (same_new hq0) hq
    have nF3 := nF.same s13
    have q0n : H q = none := s2.free hq
    have npq : p ≠ q := ne_of_none ((same_new hq0) _ _ nF.lst) hq
    have qin : q ∉ inner L := fun z => by
      obtain ⟨xs, hx⟩ := nF.all.there z
      exact ne_of_none ((same_new hq0) _ _ hx) hq rfl
    have hq3 : (upd (upd H1 q0 (.lst [V.bl false])) q (.lst (List.replicate F.length (V.bl false)))) q = some (.lst ((List.replicate F.length false).map V.bl)) := by rw [upd_same, List.map_replicate]
    generalize (upd (upd H1 q0 (.lst [V.bl false])) q (.lst (List.replicate F.length (V.bl false)))) = H3 at s3 nF3 hq3 s13
    -- sorted(..)
    obtain ⟨ts, hts, hpr⟩ := Same.form s3 hF
    have htsl := Paired.length hpr
    refine ⟨_, rfl, _, _, rfl, .inl (SqL.of hts), _, rfl, fun r hr0 => ?_⟩
    rw [List.length_map, htsl]
    have s4 := Same.new s3 (o := .rng 0 (F.length : Int)) hr0
    have s34 : Same H3 (upd H3 r (.rng 0 (F.length : Int))) := same_new hr0
    refine ⟨r, F.length, b, ts, keyOf F, rfl, upd_same, by omega, rfl, SqL.of (s34 _ _ hts), htsl, fun j t ht => ?_, tb.ext s4, fun p5 H5 e5 t5 n5 => ?_⟩
    · obtain ⟨s, hs, x, y, h1, h2, h3⟩ := paired_get' hpr ht
      refine ⟨x, [.ref y], vS s.1, SqT.of (s34 _ _ h1), SqL.of (s34 _ _ h2), ?_⟩
      unfold keyOf
      rw [vS_len]
      have hj := (List.getElem?_eq_some_iff.mp hs).1
      rw [stdOf_get hj] at hs
      cases hs
      rfl
    · have E5 : Ext (Tof X) H H5 := (Ext.of s4).trans ⟨e5, fun _ => t5⟩
      have E35 : Ext (Tof X) H3 H5 := (Ext.of s34).trans ⟨e5, fun _ => t5⟩
      have f5 : Fresh H p5 := E5.free n5
      have E6 := E5.new' (o := .lst ((byLen F).map fun (j : Nat) => V.int (j : Int))) n5
      have E56 : Ext (Tof X) H3 (upd H5 p5 (.lst ((byLen F).map fun (j : Nat) => V.int (j : Int)))) := E35.new' n5
      have T6 := E6.2 tb
      refine ⟨p5, rfl, ⟨_, SqL.of upd_same⟩, ?_⟩
      have nF6 := nF3.ext E56
      have hq6 := E56.lst hq3
      have n5p : p ≠ p5 := ne_of_none (E35.lst nF3.lst) n5
      have n5q : q ≠ p5 := ne_of_none (E35.lst hq3) n5
      have n5i : p5 ∉ inner L := fun z => by
        obtain ⟨xs, hx⟩ := nF3.all.there z
        exact ne_of_none (E35.lst hx) n5 rfl
      have hblen := byLen_len F
      refine for_it (walk_list (K := K) (a := p5) (xs := (byLen F).map fun (j : Nat) => V.int (j : Int))) (fun i σ H' => ∃ (v4 v5 v6 v7 v8 v9 : Option V), σ = [some (.ref a), some (.ref b), some (.ref p), some (.ref q), v4, v5, v6, v7, v8, v9] ∧ Ext (Tof X) H H' ∧ Tabs (Tof X) H' ∧
        H' p = some (.lst (L.map fun x => V.ref x.1)) ∧ NewL H H' L (needFold tags F ((byLen F).take i)).1 ∧ H' q = some (.lst ((needFold tags F ((byLen F).take i)).2.map V.bl)) ∧ H' p5 = some (.lst ((byLen F).map fun (j : Nat) => V.int (j : Int))))
        ⟨none, none, none, none, none, none, rfl, E6, T6, nF6.lst, nF6.all, hq6, upd_same⟩ (fun i σ H' _ ⟨_, _, _, _, _, _, _, _, _, _, _, _, h⟩ => SqL.of h) ?_ ?_
      · rintro i x σ H7 H8 hi ⟨v4, v5, v6, v7, v8, v9, rfl, E7, T7, hp7, nL7, hq7, h57⟩ ⟨rfl, hx⟩
        rw [List.length_map, hblen] at hi
        have hbi : (byLen F)[i]? = some ((byLen F)[i]'(by omega)) := List.getElem?_eq_getElem _
        have hstep : needFold tags F ((byLen F).take (i + 1)) = needStep tags F (needFold tags F ((byLen F).take i)) ((byLen F)[i]'(by omega)) := by
          unfold needFold
          rw [List.take_succ, hbi, List.foldl_append]
          rfl
        have hkF : (byLen F)[i]'(by omega) < F.length := byLen_lt (List.mem_of_getElem? hbi)
        have pr : Pruned tags F (needFold tags F ((byLen F).take i)) := Pruned.fold g _ _ (Pruned.start tags F) fun k hk => byLen_lt (List.mem_of_mem_take hk)
        rw [List.getElem?_map, hbi] at hx
        cases hx
        rw [hstep]
        generalize (byLen F)[i]'(by omega) = kk at hkF
        generalize needFold tags F ((byLen F).take i) = st at nL7 hq7 pr
        obtain ⟨N, S⟩ := st
        have hNl : N.length = F.length := pr.len
        have hSl : S.length = F.length := pr.lenS
        have hN : N[kk]? = some (stdOf N kk) := stdOf_get (by omega)
        obtain ⟨w1, w2, w3⟩ := pr.word kk _ hN
        have hsl : (stdOf N kk).2.length = tags.length := w2.trans (g.ways (stdOf_get hkF))
        have hPl : (pruneWays tags F S (stdOf N kk)).length = (stdOf N kk).2.length := (pruneWays_len hsl).trans hsl.symm
        have hwF : (stdOf N kk).1.length ≤ 5000 := by rw [w1]; exact ok.len _ (mem_of (stdOf_get hkF))
        have hwok : ∀ t ∈ (stdOf N kk).1, PyData.strOk t = true := by rw [w1]; exact ok.ok (stdOf_get hkF)
        have hstp : needStep tags F (N, S) kk = (N.set kk ((stdOf N kk).1, pruneWays tags F S (stdOf N kk)), S.set kk ((pruneWays tags F S (stdOf N kk)).all Option.isNone)) := rfl
        rw [hstp]
        have hPg : ∀ (j : Nat) (t : Str) (y : Option Nat), tags[j]? = some t → (stdOf N kk).2[j]? = some y → (pruneWays tags F S (stdOf N kk))[j]? = some (pruneWay F S (stdOf N kk).1 t y) := fun j t y h1 h2 => pruneWays_get h1 h2
        generalize pruneWays tags F S (stdOf N kk) = Pw at hPl hPg
        generalize stdOf N kk = sd at hN w1 w2 w3 hsl hPl hwF hwok hPg
        obtain ⟨x3, hx3, g1, g2, g3⟩ := NewL.get nL7 hN
        have hfr := nL7.new x3 (List.mem_of_getElem? hx3)
        have hin3 : x3.2.2 ∈ inner L := List.mem_flatMap.mpr ⟨x3, List.mem_of_getElem? hx3, by simp⟩
        have np3 : p ≠ x3.2.2 := fun z => nF.out (z ▸ hin3)
        have nq3 : q ≠ x3.2.2 := fun z => qin (z ▸ hin3)
        have n53 : p5 ≠ x3.2.2 := fun z => n5i (z ▸ hin3)
        refine ⟨_, rfl, _, rfl, _, _, _, _, rfl, rfl, SqL.of hp7, atI_nat (tri_get hx3), ?_⟩
        refine ⟨x3.1, _, rfl, SqT.of g1, rfl, _, _, rfl, _, _, rfl, rfl, ?_⟩
        refine ⟨_, rfl, _, _, rfl, SqL.of (E7.word hT), ?_⟩
        refine for_it (walk_enumW (K := K) (a := a) (w := tags)) (fun j σ H' => ∃ (v7 v8 v9 : Option V), σ = [some (.ref a), some (.ref b), some (.ref p), some (.ref q), some (.int (kk : Int)), some (.ref x3.2.1), some (.ref x3.2.2), v7, v8, v9] ∧ Ext (Tof X) H H' ∧
          H' p = some (.lst (L.map fun x => V.ref x.1)) ∧ NewL H H' L (N.set kk (sd.1, Pw.take j ++ sd.2.drop j)) ∧ H' q = some (.lst (S.map V.bl)) ∧ H' p5 = some (.lst ((byLen F).map fun (j : Nat) => V.int (j : Int))))
          ⟨v7, v8, v9, rfl, E7, hp7, by rw [show (sd.1, Pw.take 0 ++ sd.2.drop 0) = sd from rfl, set_same hN]; exact nL7, hq7, h57⟩ (fun j σ H' _ ⟨_, _, _, _, E, _⟩ => E.word hT) ?_ ?_
        · rintro j v σ H9 H10 hj ⟨u7, u8, u9, rfl, E9, hp9, nL9, hq9, h59⟩ ⟨tp, t, ht, ntp, rfl, rfl⟩
          have htt : t ∈ tags := List.mem_of_getElem? ht
          have s9 : Same H9 (upd H9 tp (.tup [.int (j : Int), .str t])) := same_new ntp
          have E10 := E9.trans (.of s9)
          have nL10 := nL9.same s9
          have hp10 := s9 _ _ hp9
          have hq10 := s9 _ _ hq9
          have h510 := s9 _ _ h59
          refine ⟨tp, _, rfl, SqT.of upd_same, rfl, _, _, rfl, _, _, rfl, rfl, ?_⟩
          generalize upd H9 tp (.tup [.int (j : Int), .str t]) = H10 at s9 E10 nL10 hp10 hq10 h510
          have hj2 : j < sd.2.length := by omega
          have hy : sd.2[j]? = some sd.2[j] := List.getElem?_eq_getElem hj2
          have hset : (N.set kk (sd.1, Pw.take j ++ sd.2.drop j))[kk]? = some (sd.1, Pw.take j ++ sd.2.drop j) := List.getElem?_set_self (by omega)
          obtain ⟨x', hx', y1, y2, y3⟩ := nL10.get hset
          rw [hx3] at hx'
          cases hx'
          have hmix : (Pw.take j ++ sd.2.drop j)[j]? = some sd.2[j] := (mix_get hPl hj2).trans hy
          have hPj := hPg j t _ ht hy
          refine ⟨_, rfl, _, rfl, _, _, _, _, rfl, rfl, SqL.of y3, atI_nat (vWs_get hmix), ?_⟩
          refine ⟨_, rfl, rfl, _, rfl, ?_⟩
          rw [vW_is]
          -- the way stays
          have stay : ∀ (H' : Hp) (u9 : V), Same H10 H' → Pw[j]? = some sd.2[j] → ∃ (v7 v8 v9 : Option V), [some (V.ref a), some (.ref b), some (.ref p), some (.ref q), some (.int (kk : Int)), some (.ref x3.2.1), some (.ref x3.2.2), some (.int (j : Int)), some (.str t), some u9] = [some (.ref a), some (.ref b), some (.ref p), some (.ref q), some (.int (kk : Int)), some (.ref x3.2.1), some (.ref x3.2.2), v7, v8, v9] ∧ Ext (Tof X) H H' ∧
              H' p = some (.lst (L.map fun x => V.ref x.1)) ∧ NewL H H' L (N.set kk (sd.1, Pw.take (j + 1) ++ sd.2.drop (j + 1))) ∧ H' q = some (.lst (S.map V.bl)) ∧ H' p5 = some (.lst ((byLen F).map fun (j : Nat) => V.int (j : Int))) := fun H' u9 s' e =>
            ⟨_, _, _, rfl, E10.trans (.of s'), s' _ _ hp10, by rw [← mix_same hPl e hy]; exact nL10.same s', s' _ _ hq10, s' _ _ h510⟩
          generalize sd.2[j] = y at hy hmix hPj stay
          cases y with
          | none => exact iteF (stay H10 _ (Same.refl _) hPj)
          | some n =>
            have hnF : n < F.length := g.to _ (mem_of (stdOf_get hkF)) n (w3 n (List.mem_of_getElem? hy))
            have hSn : (S.map V.bl)[n]? = some (.bl (S.getD n false)) := by
              rw [List.getElem?_map, List.getElem?_eq_getElem (by omega), List.getD_eq_getElem?_getD, List.getElem?_eq_getElem (by omega)]
              rfl
            refine iteT ?_
            refine ⟨_, rfl, _, rfl, _, _, _, _, rfl, rfl, SqL.of hq10, atI_nat hSn, _, rfl, ?_⟩
            have hPj' : Pw[j]? = some (if (S.getD n false && decide ((stdOf F n).1 = sd.1 ++ [t])) = true then none else some n) := hPj
            cases hSb : S.getD n false with
            | false =>
              rw [hSb, Bool.false_and, if_neg Bool.false_ne_true] at hPj'
              exact iteF (stay H10 _ (Same.refl _) hPj')
            | true =>
              rw [hSb, Bool.true_and] at hPj'
              refine iteT ?_
              obtain ⟨vs2, tt, z1, z2, f1, f2, f3, f4, f5, f6⟩ := (E10.form hF).at (stdOf_get hnF)
              refine ⟨_, rfl, _, rfl, _, _, _, _, rfl, rfl, SqL.of f1, atI_nat f3, _, _, _, _, rfl, rfl, SqT.of f4, rfl, ?_⟩
              refine ⟨_, rfl, _, rfl, by show 1 ≤ sizeLine; decide, fun r1 hr1 => ?_⟩
              have sA : Same H10 (upd H10 r1 (.lst [V.str t])) := same_new hr1
              refine ⟨_, _, _, _, rfl, rfl, sA _ _ y2, upd_same, by rw [vS_len]; exact sz_le (by simp; omega), fun r2 hr2 => ?_⟩
              have sB : Same H10 (upd (upd H10 r1 (.lst [V.str t])) r2 (.lst (vS sd.1 ++ [V.str t]))) := Same.new sA hr2
              have hw2 : WordAt (upd (upd H10 r1 (.lst [V.str t])) r2 (.lst (vS sd.1 ++ [V.str t]))) r2 (sd.1 ++ [t]) := by
                unfold WordAt
                rw [upd_same, ← vS_append]
                rfl
              generalize upd (upd H10 r1 (.lst [V.str t])) r2 (.lst (vS sd.1 ++ [V.str t])) = H11 at sB hw2
              refine eq_words (Same.word sB f5) hw2 (ok.ok (stdOf_get hnF)) (fun u hu => ?_) ⟨_, rfl, ?_⟩
              · rcases List.mem_append.mp hu with hu | hu
                · exact hwok u hu
                · rw [List.mem_singleton.mp hu]
                  exact ok.txt t htt
              · by_cases he : (stdOf F n).1 = sd.1 ++ [t]
                · rw [if_pos (decide_eq_true he)] at hPj'
                  rw [if_pos (decide_eq_true he)]
                  have E11 := E10.trans (.of sB)
                  have nL11 := nL10.same sB
                  have y11 := Same.ways sB y3
                  refine ⟨_, rfl, _, rfl, x3.2.2, _, _, j, rfl, rfl, y11, ixN_of (by rw [vWs_len, List.length_append, List.length_take, List.length_drop]; omega), ?_⟩
                  have en := nL11.setWays (ws := (Pw.take j ++ sd.2.drop j).set j none) hx3 hset
                  rw [List.set_set, mix_set hPl hPj'] at en
                  have ew : (vWs (Pw.take j ++ sd.2.drop j)).set j .non = vWs (Pw.take (j + 1) ++ sd.2.drop (j + 1)) := by
                    rw [show V.non = vW none from rfl, vWs_set, mix_set hPl hPj']
                  rw [ew]
                  exact ⟨_, _, _, rfl, E11.mut hfr.2.2 y11, (upd_ne np3).trans (sB _ _ hp10), en, (upd_ne nq3).trans (sB _ _ hq10), (upd_ne n53).trans (sB _ _ h510)⟩
                · rw [if_neg (by simpa using he)] at hPj'
                  rw [if_neg (by simpa using he)]
                  exact stay H11 _ sB hPj'
        · rintro σ H9 ⟨u7, u8, u9, rfl, E9, hp9, nL9, hq9, h59⟩
          have hfull : Pw.take tags.length ++ sd.2.drop tags.length = Pw := by
            rw [List.take_of_length_le (by omega), List.drop_eq_nil_of_le (by omega), List.append_nil]
          rw [hfull] at nL9
          have hset : (N.set kk (sd.1, Pw))[kk]? = some (sd.1, Pw) := List.getElem?_set_self (by omega)
          obtain ⟨x', hx', y1, y2, y3⟩ := nL9.get hset
          rw [hx3] at hx'
          cases hx'
          refine ⟨_, rfl, _, rfl, _, _, _, _, rfl, rfl, SqL.of hp9, atI_nat (tri_get hx3), ?_⟩
          refine ⟨_, _, _, Pw, rfl, y1, y3, by omega, fun H10 s10 => ?_⟩
          refine ⟨_, rfl, _, rfl, q, _, _, kk, rfl, rfl, s10 _ _ hq9, ixN_of (by rw [List.length_map]; omega), ?_⟩
          have E10 := E9.trans (.of s10)
          have E11 := E10.mut (o := .lst ((S.map V.bl).set kk (.bl (Pw.all Option.isNone)))) (.of q0n) (s10 _ _ hq9)
          refine ⟨_, _, _, _, _, _, rfl, E11, E11.2 tb, (upd_ne npq).trans (s10 _ _ hp9), (nL9.same s10).upd (s10 _ _ hq9) qin, ?_, (upd_ne n5q.symm).trans (s10 _ _ h59)⟩
          rw [upd_same, List.map_set]
      · rintro σ H7 ⟨v4, v5, v6, v7, v8, v9, rfl, E7, T7, hp7, nL7, hq7, h57⟩
        rw [List.length_map, hblen, ← hblen, List.take_length] at nL7
        exact ⟨_, rfl, k p L H7 E7 T7 ⟨hp7, nL7, nF.new, nF.out⟩⟩
end
end Law
end

section
set_option Elab.async false
set_option linter.all false
set_option maxRecDepth 100000
set_option maxHeartbeats 8000000
namespace Law
open PySem PySem.Spec PyProof.Rows L2 LamX QB QM
section
variable {P : Program} {w : World} {K : PySem.W.Frag} {mg : Str → Option Value} {base : Heap}
theorem pruned_needless {tags : List Str} {F : Form} (g : Good tags F) : Pruned tags F (needFold tags F (byLen F)) := Pruned.fold g _ _ (Pruned.start tags F) fun k hk => byLen_lt hk
theorem needless_len {tags : List Str} {F : Form} (g : Good tags F) : (needless tags F).length = F.length := (pruned_needless g).len
theorem needless_std {tags : List Str} {F : Form} (g : Good tags F) {s : Std} (h : s ∈ needless tags F) : ∃ s' ∈ F, s.1 = s'.1 ∧ s.2.length = s'.2.length ∧ ∀ n, some n ∈ s.2 → some n ∈ s'.2 := by
  obtain ⟨k, hk, e⟩ := List.mem_iff_getElem.mp h
  have e' : (needless tags F)[k]? = some s := by rw [List.getElem?_eq_getElem hk, e]
  obtain ⟨h1, h2, h3⟩ := (pruned_needless g).word k s e'
  have hkF : k < F.length := by rw [← needless_len g]; exact hk
  exact ⟨stdOf F k, mem_of (stdOf_get hkF), h1, h2, h3⟩
theorem needless_in {tags : List Str} {F : Form} (g : Good tags F) (ht : tags.length ≤ 100) : WaysIn (needless tags F) := fun s hs => by
  obtain ⟨s', h1, h2, h3, h4⟩ := needless_std g hs
  exact ⟨by rw [h3, g.len s' h1]; exact ht, fun n hn => by rw [needless_len g]; exact g.to s' h1 n (h4 n hn)⟩
theorem alike_len {F : Form} : (alike F).length = F.length := by
  have all : ∀ (f many : Nat) (cs : List Nat), cs.length = F.length → (alikeLoop F f many cs).length = F.length := by
    intro f
    induction f with
    | zero => exact fun _ _ h => h
    | succ f ih =>
      intro many cs h
      unfold alikeLoop
      split
      · exact ih _ _ (part_len h)
      · exact h
  exact all _ _ _ (by rw [QD.numb_len]; exact List.length_map _)
def spLeast (T : List (Addr × Str)) : Sp := fun vs H Q _ => ∃ (a b : Addr) (tags : List Str) (F : Form), vs = [.ref a, .ref b] ∧ WordAt H a tags ∧ FormAt H b F ∧ Good tags F ∧ WordsOk tags F ∧ tags.length ≤ 100 ∧ Tabs T H ∧
  ∀ (p : Addr) (L : List Tri) (H' : Hp), Ext T H H' → Tabs T H' → NewF H H' p L (least tags F) → Q (.ref p) H'
theorem ok_least_form (X : TX K mg) (TB : LamX.TabB base mg X.lam_c X.lam_P) : FnOk P w K mg base CX0 4 X.d_least_form.a X.d_least_form.fd ["tags", "standings"] (spLeast (Tof X)) := by
  have nd := sc_least_form.nd
  refine X.d_least_form.F.ok sc_least_form (fun vs H Q E h => ?_) (fun cdv A outer s H vs Q E hr h => ?_)
  · obtain ⟨a, b, tags, F, rfl, _⟩ := h
    rfl
  · obtain ⟨a, b, tags, F, rfl, hT, hF, g, ok, htl, tb, k⟩ := h
    refine ⟨_, (pss_cons (ps_set (i := 2) nd rfl (Or.inl rfl) (pe_call (ok_without_needless_ways X TB) (hr.mono (by decide)) rfl X.d_without_needless_ways.mg X.d_without_needless_ways.F.kp X.d_without_needless_ways.b .nil pass0 (pa_cons (pv 0) (pa_cons (pv 1) pa_nil)))) (pss_one (ps_ret (pe_call (ok_in_order_met X) (hr.mono (by decide)) rfl X.d_in_order_met.mg X.d_in_order_met.F.kp X.d_in_order_met.b .nil pass0 (pa_cons (pv 2) (pa_cons (pe_call (ok_alike_classes X) (hr.mono (by decide)) rfl X.d_alike_classes.mg X.d_alike_classes.F.kp X.d_alike_classes.b .nil pass0 (pa_cons (pv 2) pa_nil)) pa_nil)))))), ?_⟩
    try dsimp only [Cx.nox, Cx.wish, cxOf]
    have hsm := g.small
    have hpos := g.pos
    refine ⟨_, rfl, _, rfl, a, b, tags, F, rfl, hT, hF, g, ok, htl, tb, fun p L H1 e1 t1 n1 => ?_⟩
    have hlen := needless_len g
    have hin := needless_in g htl
    have hwl : ∀ s ∈ needless tags F, s.1.length ≤ 10000 := fun s hs => by
      obtain ⟨s', h1, h2, _⟩ := needless_std g hs
      rw [h2]
      have := ok.len s' h1
      omega
    refine ⟨_, rfl, _, rfl, p, needless tags F, rfl, n1.form, by omega, by omega, hin, hwl, fun c H2 s2 nc hc => ?_⟩
    refine ⟨p, c, needless tags F, alike (needless tags F), H, L, rfl, n1.same s2, fun q hq => (e1.trans (.of s2)).free hq, hc, alike_len, by omega, by omega, hin, fun q L2 H3 s3 n3 => ?_⟩
    have e3 := (e1.trans (.of s2)).trans (.of s3)
    exact k q L2 H3 e3 (e3.2 tb) n3
end
end Law
end

section
set_option Elab.async false
set_option linter.all false
set_option maxRecDepth 100000
set_option maxHeartbeats 8000000
namespace Law
open PySem PySem.Spec PyProof.Rows L2 LamX QB QM
theorem kit_int_int {K : PySem.W.Frag} : PySem.W.kitOne K (.type "int") (.type "int") = some true := kit_ty (by decide +kernel)
theorem kit_int_bool {K : PySem.W.Frag} : PySem.W.kitOne K (.type "int") (.type "bool") = some false := kit_ty (by decide +kernel)
theorem kit_list_list {K : PySem.W.Frag} : PySem.W.kitOne K (.type "list") (.type "list") = some true := kit_ty (by decide +kernel)
theorem kit_str_str {K : PySem.W.Frag} : PySem.W.kitOne K (.type "str") (.type "str") = some true := kit_ty (by decide +kernel)
theorem kit_tuple_tuple {K : PySem.W.Frag} : PySem.W.kitOne K (.type "tuple") (.type "tuple") = some true := kit_ty (by decide +kernel)
section
variable {P : Program} {w : World} {K : PySem.W.Frag} {mg : Str → Option Value} {base : Heap}
/-- is_number of a whole number -/
def spIsNumber : Sp := fun vs H Q _ => ∃ (n lo hi : Int), vs = [.int n, .int lo, .int hi] ∧ Q (.bl (decide (lo ≤ n ∧ n ≤ hi))) H
theorem ok_is_number (X : TX K mg) : FnOk P w K mg base CX0 1 X.d_is_number.a X.d_is_number.fd ["x", "least", "most"] spIsNumber := by
  have nd := sc_is_number.nd
  refine X.d_is_number.F.ok sc_is_number (fun vs H Q E h => ?_) (fun cdv A outer s H vs Q E hr h => ?_)
  · obtain ⟨n, lo, hi, rfl, _⟩ := h
    rfl
  · obtain ⟨n, lo, hi, rfl, k⟩ := h
    refine ⟨_, (pss_one (ps_ret (pe_and (pe_callB (QB.call_isiK K) (by rfl) X.n_isinstance QB.bo_isinstance (pa_cons (pv 0) (pa_cons (pe_bltn (v := .ty "int") (by rfl) X.n_int QB.bo_int rfl) pa_nil))) (pe_and (pe_not (pe_callB (QB.call_isiK K) (by rfl) X.n_isinstance QB.bo_isinstance (pa_cons (pv 0) (pa_cons (pe_bltn (v := .ty "bool") (by rfl) X.n_bool QB.bo_bool rfl) pa_nil)))) (pe_one (pe_chain op_le op_le (pv 1) (pv 0) (pv 2))))))), ?_⟩
    try dsimp only [Cx.nox, Cx.wish, cxOf]
    refine ⟨_, rfl, _, _, _, _, true, rfl, .ty "int", .base (.int n), kit_int_int, true, rfl, ?_⟩
    refine iteT ?_
    refine ⟨_, rfl, _, _, _, _, false, rfl, .ty "bool", .base (.int n), kit_int_bool, false, rfl, true, rfl, ?_⟩
    refine iteT ?_
    refine ⟨_, rfl, _, rfl, _, _, rfl, rfl, _, rfl, ?_⟩
    by_cases h1 : lo ≤ n
    · rw [if_pos (decide_eq_true h1)]
      refine ⟨_, rfl, _, _, rfl, rfl, ?_⟩
      have e : decide (lo ≤ n ∧ n ≤ hi) = decide (n ≤ hi) := by simp [h1]
      rw [e] at k
      exact k
    · rw [if_neg (by simpa using h1)]
      have e : decide (lo ≤ n ∧ n ≤ hi) = false := by simp [h1]
      rw [e] at k
      exact k
/-- is_list of a list -/
def spIsList : Sp := fun vs H Q _ => ∃ (a : Addr) (xs : List V) (lo hi : Int), vs = [.ref a, .int lo, .int hi] ∧ H a = some (.lst xs) ∧ Q (.bl (decide (lo ≤ (xs.length : Int) ∧ (xs.length : Int) ≤ hi))) H
theorem ok_is_list (X : TX K mg) : FnOk P w K mg base CX0 1 X.d_is_list.a X.d_is_list.fd ["x", "least", "most"] spIsList := by
  have nd := sc_is_list.nd
  refine X.d_is_list.F.ok sc_is_list (fun vs H Q E h => ?_) (fun cdv A outer s H vs Q E hr h => ?_)
  · obtain ⟨a, xs, lo, hi, rfl, _⟩ := h
    rfl
  · obtain ⟨a, xs, lo, hi, rfl, ha, k⟩ := h
    refine ⟨_, (pss_one (ps_ret (pe_and (pe_callB (QB.call_isiK K) (by rfl) X.n_isinstance QB.bo_isinstance (pa_cons (pv 0) (pa_cons (pe_bltn (v := .ty "list") (by rfl) X.n_list QB.bo_list rfl) pa_nil))) (pe_one (pe_chain op_le op_le (pv 1) (pe_callB (QB.call_lenK K) (by rfl) X.n_len PySem.boot_len (pa_cons (pv 0) pa_nil)) (pv 2)))))), ?_⟩
    try dsimp only [Cx.nox, Cx.wish, cxOf]
    refine ⟨_, rfl, _, _, _, _, true, rfl, .ty "list", .base (.lst ha), kit_list_list, true, rfl, ?_⟩
    refine iteT ?_
    refine ⟨_, rfl, _, rfl, _, _, rfl, .inl (SqL.of ha), _, _, rfl, rfl, _, rfl, ?_⟩
    by_cases h1 : lo ≤ (xs.length : Int)
    · rw [if_pos (decide_eq_true h1)]
      refine ⟨_, rfl, _, _, rfl, rfl, ?_⟩
      have e : decide (lo ≤ (xs.length : Int) ∧ (xs.length : Int) ≤ hi) = decide ((xs.length : Int) ≤ hi) := by simp [h1]
      rw [e] at k
      exact k
    · rw [if_neg (by simpa using h1)]
      have e : decide (lo ≤ (xs.length : Int) ∧ (xs.length : Int) ≤ hi) = false := by simp [h1]
      rw [e] at k
      exact k
def letters : Str := "abcdefghijklmnopqrstuvwxyz"
/-- a name of a tag -/
structure NameOk (t : Str) : Prop where
  pos : 1 ≤ t.length
  len : t.length ≤ 8
  all : ∀ c ∈ t.cps.toList, c ∈ letters.cps.toList
theorem NameOk.txt {t : Str} (h : NameOk t) : PyData.strOk t = true := by
  unfold PyData.strOk
  rw [← Array.all_toList, List.all_eq_true]
  intro c hc
  have := h.all c hc
  have small : ∀ c ∈ letters.cps.toList, decide (c < 0x110000) = true := by decide +kernel
  exact small c this
def spIsName : Sp := fun vs H Q _ => ∃ t : Str, vs = [.str t] ∧ NameOk t ∧ ∀ H', Same H H' → Q (.bl true) H'
theorem ok_is_name (X : TX K mg) : FnOk P w K mg base CX0 1 X.d_is_name.a X.d_is_name.fd ["x"] spIsName := by
  have nd := sc_is_name.nd
  refine X.d_is_name.F.ok sc_is_name (fun vs H Q E h => ?_) (fun cdv A outer s H vs Q E hr h => ?_)
  · obtain ⟨t, rfl, _⟩ := h
    rfl
  · obtain ⟨t, rfl, ho, k⟩ := h
    refine ⟨_, (pss_cons (ps_if (PW.pt (pw_or (pt_not (pt_val (pe_callB (QB.call_isiK K) (by rfl) X.n_isinstance QB.bo_isinstance (pa_cons (pv 0) (pa_cons (pe_bltn (v := .ty "str") (by rfl) X.n_str QB.bo_str rfl) pa_nil))))) (pw_or1 (pt_not (pt_chain op_le op_le pe_int (pe_callB call_len_str (by rfl) X.n_len PySem.boot_len (pa_cons (pv 0) pa_nil)) (pe_gc rfl X.c_MOST_LETTERS)))))) (pss_one (ps_ret pe_bl)) pss_nil) (pss_one (ps_ret (pe_callB (QB.cr_allK K rfl) (by rfl) X.n_all QB.bo_all (pa_cons (pe_lc (own := [("letter", 1)]) (g := gName 1) (tt := tYes) rfl nd (pi_str (pv 0)) (blkOk_by (N := ["x", "letter"]) (sc := defScope s_is_name) (by decide +kernel)) (fun _ _ _ _ _ => pg_name (i := 1) nd rfl (Or.inl rfl)) (fun _ _ _ _ _ => pts_nil) (fun _ _ _ _ _ => (pe_cmpR op_in_sign (pv 1) (pe_gc rfl X.c_LETTERS) rfl))) pa_nil))))), ?_⟩
    try dsimp only [Cx.nox, Cx.wish, cxOf]
    have h1 := ho.pos
    have h8 := ho.len
    refine ⟨_, rfl, _, _, _, _, true, rfl, .ty "str", .base (.str t), kit_str_str, true, rfl, ?_⟩
    refine iteF ?_
    refine ⟨_, rfl, t, rfl, sz_le (by omega), _, _, rfl, rfl, _, rfl, ?_⟩
    rw [if_pos (decide_eq_true (by omega))]
    refine ⟨_, _, rfl, rfl, _, rfl, ?_⟩
    rw [decide_eq_true (by omega : (t.length : Int) ≤ 8)]
    refine iteF ?_
    refine ⟨_, rfl, t, rfl, fun D hD => ?_⟩
    refine lc_map walk_str hD (by have e : t.cps.size = t.length := rfl; omega) (fun _ _ => True.intro) (fun i => .bl true) ?_ ?_
    · rintro i x H1 H2 kk hi s1 ⟨rfl, c, hc, rfl⟩ hk
      refine ⟨rfl, _, rfl, c, letters, rfl, rfl, ?_⟩
      rw [decide_eq_true (ho.all c (by
        have := List.mem_of_getElem? (show t.cps.toList[i]? = some c by simpa using hc)
        exact this))]
      exact hk _ (Same.refl _)
    · intro H1 s1 e
      have e2 : (List.range t.cps.size).map (fun _ => V.bl true) = (List.replicate t.cps.size true).map V.bl := by
        rw [List.map_replicate, List.map_const', List.length_range]
      refine ⟨_, List.replicate t.cps.size true, rfl, SqL.of (by rw [← e2]; exact e), ?_⟩
      have e3 : (List.replicate t.cps.size true).all id = true := by
        rw [List.all_eq_true]
        intro b hb
        rw [List.eq_of_mem_replicate hb]
        rfl
      rw [e3]
      exact k H1 s1

def spIsTag : Sp := fun vs H Q _ => ∃ (a : Addr) (tags : List Str) (t : Str), vs = [.ref a, .str t] ∧ WordAt H a tags ∧ Q (.bl (decide (t ∈ tags))) H
theorem ok_is_tag (X : TX K mg) : FnOk P w K mg base CX0 1 X.d_is_tag.a X.d_is_tag.fd ["tags", "x"] spIsTag := by
  have nd := sc_is_tag.nd
  refine X.d_is_tag.F.ok sc_is_tag (fun vs H Q E h => ?_) (fun cdv A outer s H vs Q E hr h => ?_)
  · obtain ⟨a, tags, t, rfl, _⟩ := h
    rfl
  · obtain ⟨a, tags, t, rfl, ha, k⟩ := h
    refine ⟨_, (pss_one (ps_ret (pe_and (pe_callB (QB.call_isiK K) (by rfl) X.n_isinstance QB.bo_isinstance (pa_cons (pv 1) (pa_cons (pe_bltn (v := .ty "str") (by rfl) X.n_str QB.bo_str rfl) pa_nil))) (pe_one (pe_cmpR (QB.op_inK K) (pv 1) (pv 0) rfl))))), ?_⟩
    try dsimp only [Cx.nox, Cx.wish, cxOf]
    refine ⟨_, rfl, _, _, _, _, true, rfl, .ty "str", .base (.str t), kit_str_str, true, rfl, ?_⟩
    refine iteT ?_
    refine ⟨_, rfl, _, rfl, a, vS tags, rfl, .inl (SqL.of ha), rfl, vS_flat, ?_⟩
    show Q (.bl (if false = true then !inV (.str t) (vS tags) else inV (.str t) (vS tags))) H
    rw [if_neg Bool.false_ne_true, inV_word]
    exact k
def spIsSubject : Sp := fun vs H Q _ => ∃ (a b : Addr) (tags wd : List Str), vs = [.ref a, .ref b] ∧ WordAt H a tags ∧ WordAt H b wd ∧ wd.length ≤ 10000 ∧ ∀ H', Same H H' → Q (.bl (wd.all fun t => decide (t ∈ tags))) H'
theorem ok_is_subject (X : TX K mg) : FnOk P w K mg base CX0 2 X.d_is_subject.a X.d_is_subject.fd ["tags", "x"] spIsSubject := by
  have nd := sc_is_subject.nd
  refine X.d_is_subject.F.ok sc_is_subject (fun vs H Q E h => ?_) (fun cdv A outer s H vs Q E hr h => ?_)
  · obtain ⟨a, b, tags, wd, rfl, _⟩ := h
    rfl
  · obtain ⟨a, b, tags, wd, rfl, ha, hb, hz, k⟩ := h
    refine ⟨_, (pss_one (ps_ret (pe_and (pe_callB (QB.call_isiK K) (by rfl) X.n_isinstance QB.bo_isinstance (pa_cons (pv 1) (pa_cons (pe_bltn (v := .ty "list") (by rfl) X.n_list QB.bo_list rfl) pa_nil))) (pe_one (pe_callB (QB.cr_allK K rfl) (by rfl) X.n_all QB.bo_all (pa_cons (pe_lc (own := [("tag", 2)]) (g := gName 2) (tt := tYes) rfl nd (QB.pi_listK K (pv 1)) (blkOk_by (N := ["tags", "x", "tag"]) (sc := defScope s_is_subject) (by decide +kernel)) (fun _ _ _ _ _ => pg_name (i := 2) nd rfl (Or.inl rfl)) (fun _ _ _ _ _ => pts_nil) (fun _ _ _ _ _ => (pe_call (ok_is_tag X) (hr.mono (by decide)) rfl X.d_is_tag.mg X.d_is_tag.F.kp X.d_is_tag.b .nil pass0 (pa_cons (pv 0) (pa_cons (pv 2) pa_nil))))) pa_nil)))))), ?_⟩
    try dsimp only [Cx.nox, Cx.wish, cxOf]
    refine ⟨_, rfl, _, _, _, _, true, rfl, .ty "list", .base (.lst hb), kit_list_list, true, rfl, ?_⟩
    refine iteT ?_
    refine ⟨_, rfl, _, rfl, ⟨_, SqL.of hb⟩, fun D hD => ?_⟩
    refine lc_map (walk_listW (K := K) (a := b) (w := wd)) hD (by omega) (fun H1 s1 => Same.word s1 hb) (fun i => .bl (decide ((wd[i]?).getD "" ∈ tags))) ?_ ?_
    · rintro i x H1 H2 kk hi s1 ⟨y, hy, rfl, rfl⟩ hk
      refine ⟨rfl, _, rfl, _, rfl, a, tags, y, rfl, Same.word s1 ha, ?_⟩
      have e := hk _ (Same.refl H2)
      rw [hy] at e
      exact e
    · intro H1 s1 e
      rw [range_map_get _ wd (fun t => .bl (decide (t ∈ tags))) (fun i x hx => by rw [hx]; rfl)] at e
      refine ⟨_, wd.map fun t => decide (t ∈ tags), rfl, SqL.of (by rw [e, List.map_map]; rfl), ?_⟩
      have e2 := k H1 s1
      rw [List.all_map]
      exact e2
/-- standings that may be passed -/
structure StdOk (tags : List Str) (n : Nat) (s : Std) : Prop where
  len : s.1.length ≤ 8
  sub : ∀ t ∈ s.1, t ∈ tags
  ways : s.2.length = tags.length
  to : ∀ m, some m ∈ s.2 → m < n
structure FormOk (tags : List Str) (F : Form) : Prop where
  pos : 1 ≤ F.length
  len : F.length ≤ 30
  all : ∀ s ∈ F, StdOk tags F.length s
structure TagsOk (tags : List Str) : Prop where
  pos : 1 ≤ tags.length
  len : tags.length ≤ 6
  nd : tags.Nodup
  names : ∀ t ∈ tags, NameOk t
theorem FormOk.good {tags : List Str} {F : Form} (f : FormOk tags F) : Good tags F := ⟨f.pos, fun s hs => (f.all s hs).ways, fun s hs n hn => (f.all s hs).to n hn, by have := f.len; omega⟩
theorem FormOk.words {tags : List Str} {F : Form} (f : FormOk tags F) (t : TagsOk tags) : WordsOk tags F := ⟨fun x hx => (t.names x hx).txt, fun s hs => (f.all s hs).sub, fun s hs => by have := (f.all s hs).len; omega⟩
def spIsStanding : Sp := fun vs H Q _ => ∃ (a x p1 p2 : Addr) (tags : List Str) (n : Nat) (s : Std), vs = [.ref a, .int (n : Int), .ref x] ∧ WordAt H a tags ∧ H x = some (.tup [.ref p1, .ref p2]) ∧ WordAt H p1 s.1 ∧ WaysAt H p2 s.2 ∧ StdOk tags n s ∧ tags.length ≤ 100 ∧ ∀ H', Same H H' → Q (.bl true) H'
theorem ok_is_standing (X : TX K mg) : FnOk P w K mg base CX0 3 X.d_is_standing.a X.d_is_standing.fd ["tags", "many", "x"] spIsStanding := by
  have nd := sc_is_standing.nd
  refine X.d_is_standing.F.ok sc_is_standing (fun vs H Q E h => ?_) (fun cdv A outer s H vs Q E hr h => ?_)
  · obtain ⟨a, x, p1, p2, tags, n, s, rfl, _⟩ := h
    rfl
  · obtain ⟨a, x, p1, p2, tags, n, s, rfl, ha, hx, h1, h2, ok, htl, k⟩ := h
    refine ⟨_, (pss_cons (ps_if (PW.pt (pw_or (pt_not (pt_val (pe_callB (QB.call_isiK K) (by rfl) X.n_isinstance QB.bo_isinstance (pa_cons (pv 2) (pa_cons (pe_bltn (v := .ty "tuple") (by rfl) X.n_tuple QB.bo_tuple rfl) pa_nil))))) (pw_or1 (pt_cmpR op_ne (pe_callB (QB.call_lenK K) (by rfl) X.n_len PySem.boot_len (pa_cons (pv 2) pa_nil)) pe_int (nomark _))))) (pss_one (ps_ret pe_bl)) pss_nil) (pss_cons (ps_asg (pv 2) (pg_tup (by rfl) (pgs_cons (pg_name (i := 3) nd rfl (Or.inl rfl)) (pgs_cons (pg_name (i := 4) nd rfl (Or.inl rfl)) (pgs_nil))))) (pss_cons (ps_if (PW.pt (pw_or (pt_not (pt_val (pe_call (ok_is_list X) (hr.mono (by decide)) rfl X.d_is_list.mg X.d_is_list.F.kp X.d_is_list.b .nil pass0 (pa_cons (pv 3) (pa_cons pe_int (pa_cons (pe_gc rfl X.c_LONGEST_WORD) pa_nil)))))) (pw_or1 (pt_not (pt_val (pe_call (ok_is_subject X) (hr.mono (by decide)) rfl X.d_is_subject.mg X.d_is_subject.F.kp X.d_is_subject.b .nil pass0 (pa_cons (pv 0) (pa_cons (pv 3) pa_nil)))))))) (pss_one (ps_ret pe_bl)) pss_nil) (pss_cons (ps_if (pt_not (pt_val (pe_call (ok_is_list X) (hr.mono (by decide)) rfl X.d_is_list.mg X.d_is_list.F.kp X.d_is_list.b .nil pass0 (pa_cons (pv 4) (pa_cons (pe_callB (QB.call_lenK K) (by rfl) X.n_len PySem.boot_len (pa_cons (pv 0) pa_nil)) (pa_cons (pe_callB (QB.call_lenK K) (by rfl) X.n_len PySem.boot_len (pa_cons (pv 0) pa_nil)) pa_nil)))))) (pss_one (ps_ret pe_bl)) pss_nil) (pss_one (ps_ret (pe_callB (QB.cr_allK K rfl) (by rfl) X.n_all QB.bo_all (pa_cons (pe_lc (own := [("way", 5)]) (g := gName 5) (tt := tYes) rfl nd (QB.pi_listK K (pv 4)) (blkOk_by (N := ["tags", "many", "x", "word", "ways", "way"]) (sc := defScope s_is_standing) (by decide +kernel)) (fun _ _ _ _ _ => pg_name (i := 5) nd rfl (Or.inl rfl)) (fun _ _ _ _ _ => pts_nil) (fun _ _ _ _ _ => (pe_or (pe_cmpR op_isN (pv 5) pe_non (nomark _)) (pe_one (pe_call (ok_is_number X) (hr.mono (by decide)) rfl X.d_is_number.mg X.d_is_number.F.kp X.d_is_number.b .nil pass0 (pa_cons (pv 5) (pa_cons pe_int (pa_cons (pe_op op_sub (pv 1) pe_int) pa_nil)))))))) pa_nil)))))))), ?_⟩
    try dsimp only [Cx.nox, Cx.wish, cxOf]
    have o1 := ok.len
    have o2 := ok.ways
    refine ⟨_, rfl, _, _, _, _, true, rfl, .ty "tuple", .base (.tup hx), kit_tuple_tuple, true, rfl, ?_⟩
    refine iteF ?_
    refine ⟨_, rfl, _, _, rfl, .inr (SqT.of hx), rfl, _, rfl, ?_⟩
    refine iteF ?_
    refine ⟨_, rfl, x, _, rfl, SqT.of hx, rfl, _, _, rfl, _, _, rfl, rfl, ?_⟩
    refine ⟨_, rfl, p1, _, _, _, rfl, h1, _, rfl, ?_⟩
    rw [decide_eq_true (by rw [vS_len]; omega)]
    refine iteF ?_
    refine ⟨_, rfl, _, rfl, a, p1, tags, s.1, rfl, ha, h1, by omega, fun H1 s1 => ?_⟩
    rw [show (s.1.all fun t => decide (t ∈ tags)) = true from List.all_eq_true.mpr fun t ht => decide_eq_true (ok.sub t ht)]
    refine ⟨_, rfl, ?_⟩
    refine iteF ?_
    refine ⟨_, rfl, _, rfl, _, _, rfl, .inl (SqL.of (Same.word s1 ha)), _, rfl, _, _, rfl, .inl (SqL.of (Same.word s1 ha)), p2, _, _, _, rfl, Same.ways s1 h2, _, rfl, ?_⟩
    rw [decide_eq_true (by rw [vS_len, vWs_len]; omega)]
    refine iteF ?_
    refine ⟨_, rfl, _, rfl, ⟨_, SqL.of (Same.ways s1 h2)⟩, fun D hD => ?_⟩
    refine lc_map (walk_listWs (K := K) (a := p2) (ws := s.2)) hD (by omega) (fun H2 s2 => Same.ways (s1.trans s2) h2) (fun i => .bl true) ?_ ?_
    · rintro i v H2 H3 kk hi s2 ⟨y, hy, rfl, rfl⟩ hk
      have e := hk _ (Same.refl H3)
      refine ⟨rfl, _, rfl, rfl, _, rfl, ?_⟩
      rw [vW_is]
      cases y with
      | none => exact iteT e
      | some m =>
        have hm := ok.to m (List.mem_of_getElem? hy)
        refine iteF ?_
        refine ⟨_, rfl, _, rfl, _, _, rfl, rfl, _, _, _, rfl, ?_⟩
        rw [decide_eq_true (by omega)]
        exact e
    · intro H2 s2 e
      have e2 : (List.range s.2.length).map (fun _ => V.bl true) = (List.replicate s.2.length true).map V.bl := by
        rw [List.map_replicate, List.map_const', List.length_range]
      refine ⟨_, List.replicate s.2.length true, rfl, SqL.of (by rw [← e2]; exact e), ?_⟩
      have e3 : (List.replicate s.2.length true).all id = true := by
        rw [List.all_eq_true]
        intro b hb
        rw [List.eq_of_mem_replicate hb]
        rfl
      rw [e3]
      exact k H2 (s1.trans s2)
def spCheckTags : Sp := fun vs H Q _ => ∃ (a : Addr) (tags : List Str), vs = [.ref a] ∧ WordAt H a tags ∧ TagsOk tags ∧ ∀ H', Same H H' → Q .non H'
theorem ok_check_tags (X : TX K mg) : FnOk P w K mg base CX0 3 X.d_check_tags.a X.d_check_tags.fd ["tags"] spCheckTags := by
  have nd := sc_check_tags.nd
  refine X.d_check_tags.F.ok sc_check_tags (fun vs H Q E h => ?_) (fun cdv A outer s H vs Q E hr h => ?_)
  · obtain ⟨a, tags, rfl, _⟩ := h
    rfl
  · obtain ⟨a, tags, rfl, ha, ok, k⟩ := h
    refine ⟨_, (pss_cons (ps_if (pt_not (pt_val (pe_call (ok_is_list X) (hr.mono (by decide)) rfl X.d_is_list.mg X.d_is_list.F.kp X.d_is_list.b .nil pass0 (pa_cons (pv 0) (pa_cons pe_int (pa_cons (pe_gc rfl X.c_MOST_TAGS) pa_nil)))))) (pss_one ps_never) pss_nil) (pss_one (ps_for PassesOwn.never rfl (QB.pi_enumK K (by rfl) X.n_enumerate (pa_cons (pv 0) pa_nil)) (pg_tup (by rfl) (pgs_cons (pg_name (i := 1) nd rfl (Or.inl rfl)) (pgs_cons (pg_name (i := 2) nd rfl (Or.inl rfl)) (pgs_nil)))) (pss_one (ps_if (PW.pt (pw_or (pt_not (pt_val (pe_call (ok_is_name X) (hr.mono (by decide)) rfl X.d_is_name.mg X.d_is_name.F.kp X.d_is_name.b .nil pass0 (pa_cons (pv 2) pa_nil)))) (pw_or1 (pt_cmpR (QB.op_inK K) (pv 2) (pe_slice (QB.sl_listK K) (pv 0) po_none (po_some (pv 1))) rfl)))) (pss_one ps_never) pss_nil))))), ?_⟩
    try dsimp only [Cx.nox, Cx.wish, cxOf]
    have o1 := ok.pos
    have o2 := ok.len
    refine ⟨_, rfl, a, _, _, _, rfl, ha, _, rfl, ?_⟩
    rw [decide_eq_true (by rw [vS_len]; omega)]
    refine iteF ?_
    refine ⟨_, rfl, _, _, rfl, SqL.of ha, ?_⟩
    refine for_it (walk_enumW (K := K) (a := a) (w := tags)) (fun i σ H' => ∃ v1 v2, σ = [some (.ref a), v1, v2] ∧ Same H H') ⟨none, none, rfl, Same.refl H⟩ (fun i σ H' _ ⟨_, _, _, s1⟩ => Same.word s1 ha) ?_ ?_
    · rintro i v σ H1 H2 hi ⟨v1, v2, rfl, s1⟩ ⟨tp, t, ht, ntp, rfl, rfl⟩
      have s2 := Same.new s1 (o := .tup [.int (i : Int), .str t]) ntp
      refine ⟨tp, _, rfl, SqT.of upd_same, rfl, _, _, rfl, _, _, rfl, rfl, ?_⟩
      refine ⟨_, rfl, t, rfl, ok.names t (List.mem_of_getElem? ht), fun H3 s3 => ⟨_, rfl, ?_⟩⟩
      have s4 := s2.trans s3
      refine iteF ?_
      refine ⟨_, rfl, _, rfl, _, rfl, _, rfl, a, _, rfl, SqL.of (Same.word s4 ha), fun q hq => ?_⟩
      rw [cut_take, vS_take]
      refine ⟨q, _, rfl, .inl (SqL.of upd_same), rfl, vS_flat, _, rfl, ?_⟩
      rw [if_neg Bool.false_ne_true, inV_word]
      have hnot : t ∉ tags.take i := fun hm => by
        obtain ⟨j, hj, e⟩ := List.mem_iff_getElem.mp hm
        rw [List.length_take] at hj
        rw [List.getElem_take] at e
        have e2 : tags[j]? = some t := by rw [List.getElem?_eq_getElem (by omega), e]
        have := nd_ix ok.nd e2 ht
        omega
      rw [decide_eq_false hnot]
      exact iteF ⟨_, _, rfl, Same.new s4 hq⟩
    · rintro σ H1 ⟨v1, v2, rfl, s1⟩
      exact k H1 s1
def spCheckWord : Sp := fun vs H Q _ => ∃ (a b : Addr) (tags wd : List Str) (most : Int), vs = [.ref a, .ref b, .int most] ∧ WordAt H a tags ∧ WordAt H b wd ∧ (wd.length : Int) ≤ most ∧ (∀ t ∈ wd, t ∈ tags) ∧ ∀ H', Same H H' → Q .non H'
theorem ok_check_word (X : TX K mg) : FnOk P w K mg base CX0 3 X.d_check_word.a X.d_check_word.fd ["tags", "word", "most"] spCheckWord := by
  have nd := sc_check_word.nd
  refine X.d_check_word.F.ok sc_check_word (fun vs H Q E h => ?_) (fun cdv A outer s H vs Q E hr h => ?_)
  · obtain ⟨a, b, tags, wd, most, rfl, _⟩ := h
    rfl
  · obtain ⟨a, b, tags, wd, most, rfl, ha, hb, hz, hin, k⟩ := h
    refine ⟨_, (pss_cons (ps_if (pt_not (pt_val (pe_call (ok_is_list X) (hr.mono (by decide)) rfl X.d_is_list.mg X.d_is_list.F.kp X.d_is_list.b .nil pass0 (pa_cons (pv 1) (pa_cons pe_int (pa_cons (pv 2) pa_nil)))))) (pss_one ps_never) pss_nil) (pss_one (ps_for PassesOwn.never rfl (QB.pi_enumK K (by rfl) X.n_enumerate (pa_cons (pv 1) pa_nil)) (pg_tup (by rfl) (pgs_cons (pg_name (i := 3) nd rfl (Or.inl rfl)) (pgs_cons (pg_name (i := 4) nd rfl (Or.inl rfl)) (pgs_nil)))) (pss_one (ps_if (pt_not (pt_val (pe_call (ok_is_tag X) (hr.mono (by decide)) rfl X.d_is_tag.mg X.d_is_tag.F.kp X.d_is_tag.b .nil pass0 (pa_cons (pv 0) (pa_cons (pv 4) pa_nil))))) (pss_one ps_never) pss_nil))))), ?_⟩
    try dsimp only [Cx.nox, Cx.wish, cxOf]
    refine ⟨_, rfl, _, rfl, b, _, _, _, rfl, hb, _, rfl, ?_⟩
    rw [decide_eq_true (by rw [vS_len]; omega)]
    refine iteF ?_
    refine ⟨_, rfl, _, _, rfl, SqL.of hb, ?_⟩
    refine for_it (walk_enumW (K := K) (a := b) (w := wd)) (fun i σ H' => ∃ v3 v4, σ = [some (.ref a), some (.ref b), some (.int most), v3, v4] ∧ Same H H') ⟨none, none, rfl, Same.refl H⟩ (fun i σ H' _ ⟨_, _, _, s1⟩ => Same.word s1 hb) ?_ ?_
    · rintro i v σ H1 H2 hi ⟨v1, v2, rfl, s1⟩ ⟨tp, t, ht, ntp, rfl, rfl⟩
      have s2 := Same.new s1 (o := .tup [.int (i : Int), .str t]) ntp
      refine ⟨tp, _, rfl, SqT.of upd_same, rfl, _, _, rfl, _, _, rfl, rfl, ?_⟩
      refine ⟨_, rfl, _, rfl, a, tags, t, rfl, Same.word s2 ha, _, rfl, ?_⟩
      rw [decide_eq_true (hin t (List.mem_of_getElem? ht))]
      exact iteF ⟨_, _, rfl, s2⟩
    · rintro σ H1 ⟨v1, v2, rfl, s1⟩
      exact k H1 s1
def spCheckStandings : Sp := fun vs H Q _ => ∃ (a b : Addr) (tags : List Str) (F : Form), vs = [.ref a, .ref b] ∧ WordAt H a tags ∧ FormAt H b F ∧ FormOk tags F ∧ tags.length ≤ 100 ∧ ∀ H', Same H H' → Q .non H'
theorem ok_check_standings (X : TX K mg) : FnOk P w K mg base CX0 4 X.d_check_standings.a X.d_check_standings.fd ["tags", "standings"] spCheckStandings := by
  have nd := sc_check_standings.nd
  refine X.d_check_standings.F.ok sc_check_standings (fun vs H Q E h => ?_) (fun cdv A outer s H vs Q E hr h => ?_)
  · obtain ⟨a, b, tags, F, rfl, _⟩ := h
    rfl
  · obtain ⟨a, b, tags, F, rfl, ha, hF, ok, htl, k⟩ := h
    refine ⟨_, (pss_cons (ps_if (pt_not (pt_val (pe_call (ok_is_list X) (hr.mono (by decide)) rfl X.d_is_list.mg X.d_is_list.F.kp X.d_is_list.b .nil pass0 (pa_cons (pv 1) (pa_cons pe_int (pa_cons (pe_gc rfl X.c_MOST_STANDINGS) pa_nil)))))) (pss_one ps_never) pss_nil) (pss_one (ps_for PassesOwn.never rfl (QB.pi_enumK K (by rfl) X.n_enumerate (pa_cons (pv 1) pa_nil)) (pg_tup (by rfl) (pgs_cons (pg_name (i := 2) nd rfl (Or.inl rfl)) (pgs_cons (pg_name (i := 3) nd rfl (Or.inl rfl)) (pgs_nil)))) (pss_one (ps_if (pt_not (pt_val (pe_call (ok_is_standing X) (hr.mono (by decide)) rfl X.d_is_standing.mg X.d_is_standing.F.kp X.d_is_standing.b .nil pass0 (pa_cons (pv 0) (pa_cons (pe_callB (QB.call_lenK K) (by rfl) X.n_len PySem.boot_len (pa_cons (pv 1) pa_nil)) (pa_cons (pv 3) pa_nil)))))) (pss_one ps_never) pss_nil))))), ?_⟩
    try dsimp only [Cx.nox, Cx.wish, cxOf]
    have o1 := ok.pos
    have o2 := ok.len
    obtain ⟨ts, hts, hpr⟩ := hF
    have htsl := Paired.length hpr
    refine ⟨_, rfl, b, _, _, _, rfl, hts, _, rfl, ?_⟩
    rw [decide_eq_true (by rw [List.length_map]; omega)]
    refine iteF ?_
    refine ⟨_, rfl, _, _, rfl, SqL.of hts, ?_⟩
    refine for_it (walk_enum (K := K) (a := b) (xs := ts.map V.ref)) (fun i σ H' => ∃ v3 v4, σ = [some (.ref a), some (.ref b), v3, v4] ∧ Same H H') ⟨none, none, rfl, Same.refl H⟩ (fun i σ H' _ ⟨_, _, _, s1⟩ => SqL.of (s1 _ _ hts)) ?_ ?_
    · rintro i v σ H1 H2 hi ⟨v1, v2, rfl, s1⟩ ⟨tp, x1, x2, rfl, ntp, rfl, e1, e2⟩
      cases e1
      rw [List.length_map] at hi
      have hti : ts[i]? = some ts[i] := List.getElem?_eq_getElem hi
      have e2 : (ts.map V.ref)[i]? = some x2 := e2
      rw [List.getElem?_map, hti] at e2
      cases e2
      obtain ⟨s, hs, p1, p2, f1, f2, f3⟩ := paired_get' hpr hti
      have s2 := Same.new s1 (o := .tup [.int (i : Int), .ref ts[i]]) ntp
      refine ⟨tp, _, rfl, SqT.of upd_same, rfl, _, _, rfl, _, _, rfl, rfl, ?_⟩
      refine ⟨_, rfl, _, rfl, _, _, rfl, .inl (SqL.of (s2 _ _ hts)), _, rfl, ?_⟩
      refine ⟨a, ts[i], p1, p2, tags, F.length, s, by rw [List.length_map, htsl]; rfl, Same.word s2 ha, s2 _ _ f1, Same.word s2 f2, Same.ways s2 f3, ok.all s (mem_of hs), htl, fun H3 s3 => ⟨_, rfl, ?_⟩⟩
      exact iteF ⟨_, _, rfl, s2.trans s3⟩
    · rintro σ H1 ⟨v1, v2, rfl, s1⟩
      exact k H1 s1
end
end Law
end

section
set_option Elab.async false
set_option linter.all false
set_option maxRecDepth 100000
set_option maxHeartbeats 4000000
namespace Law
open PySem PySem.Spec PyProof.Rows L2 LamX QB QM
section
variable {P : Program} {w : World} {K : PySem.W.Frag} {mg : Str → Option Value} {base : Heap}

theorem wordIns {H : Hp} {x p C dx : Addr} {fs : List (Str × V)} {o : HO} {t : Word} (h : WordAt H p t) (e : H x = some (.ins C dx fs)) : WordAt (upd H x o) p t := Eq.trans (upd_ne (ne_of h e (fun z => nomatch z))) h
theorem formIns {H : Hp} {x p C dx : Addr} {fs : List (Str × V)} {o : HO} {F : Form} (h : FormAt H p F) (e : H x = some (.ins C dx fs)) : FormAt (upd H x o) p F := by
  obtain ⟨ts, h1, h2⟩ := h
  refine ⟨ts, Eq.trans (upd_ne (ne_of h1 e (fun z => nomatch z))) h1, L2.Paired.mapP h2 fun t s q => ?_⟩
  obtain ⟨a, b, q1, q2, q3⟩ := q
  exact ⟨a, b, Eq.trans (upd_ne (ne_of q1 e (fun z => nomatch z))) q1, Eq.trans (upd_ne (ne_of q2 e (fun z => nomatch z))) q2, Eq.trans (upd_ne (ne_of q3 e (fun z => nomatch z))) q3⟩
theorem newIns {H0 H : Hp} {x p C dx : Addr} {fs : List (Str × V)} {o : HO} {L : List Tri} {F : Form} (h : NewF H0 H p L F) (e : H x = some (.ins C dx fs)) : NewF H0 (upd H x o) p L F := by
  refine ⟨Eq.trans (upd_ne (ne_of h.lst e (fun z => nomatch z))) h.lst, ⟨L2.Paired.mapP h.all.at_ fun t s q => ?_, h.all.new, h.all.nd⟩, h.new, h.out⟩
  obtain ⟨q1, q2, q3⟩ := q
  exact ⟨Eq.trans (upd_ne (ne_of q1 e (fun z => nomatch z))) q1, Eq.trans (upd_ne (ne_of q2 e (fun z => nomatch z))) q2, Eq.trans (upd_ne (ne_of q3 e (fun z => nomatch z))) q3⟩

/-- an eater's fields -/
def eatFs (a b : Addr) : List (Str × V) := [("_tags", .ref a), ("_standings", .ref b)]
/-- an eater -/
def EatAt (C : Addr) (H : Hp) (e : Addr) (tags : Word) (G : Form) : Prop := ∃ dx a b, H e = some (.ins C dx (eatFs a b)) ∧ WordAt H a tags ∧ FormAt H b G
theorem EatAt.ext {T : List (Addr × Str)} {C e : Addr} {H H' : Hp} {tags : Word} {G : Form} (h : EatAt C H e tags G) (x : QB.Ext T H H') : EatAt C H' e tags G := by
  obtain ⟨dx, a, b, h1, h2, h3⟩ := h
  exact ⟨dx, a, b, x.get h1, x.word h2, x.form h3⟩
theorem EatAt.same {C e : Addr} {H H' : Hp} {tags : Word} {G : Form} (h : EatAt C H e tags G) (x : Same H H') : EatAt C H' e tags G := h.ext (Ext.of (T := []) x)
/-- a new eater: what it stands on is new -/
structure EatN (C : Addr) (H0 H : Hp) (e dx a b : Addr) (L : List Tri) (tags : Word) (G : Form) : Prop where
  ins : H e = some (.ins C dx (eatFs a b))
  tags : WordAt H a tags
  form : NewF H0 H b L G
  fe : Fresh H0 e
  fa : Fresh H0 a
theorem EatN.at_ {C e dx a b : Addr} {H0 H : Hp} {L : List Tri} {tags : Word} {G : Form} (h : EatN C H0 H e dx a b L tags G) : EatAt C H e tags G := ⟨dx, a, b, h.ins, h.tags, h.form.form⟩
theorem EatN.ext {T : List (Addr × Str)} {C e dx a b : Addr} {H0 H H' : Hp} {L : List Tri} {tags : Word} {G : Form} (h : EatN C H0 H e dx a b L tags G) (x : QB.Ext T H H') : EatN C H0 H' e dx a b L tags G := ⟨x.get h.ins, x.word h.tags, h.form.ext x, h.fe, h.fa⟩

def spInit (T : List (Addr × Str)) (C : Addr) : Sp := fun vs H Q _ => ∃ (x dx a b : Addr) (tags : Word) (F : Form) (H0 : Hp), vs = [.ref x, .ref a, .ref b] ∧ H x = some (.ins C dx []) ∧ WordAt H a tags ∧ FormAt H b F ∧ TagsOk tags ∧ FormOk tags F ∧ Tabs T H ∧ QB.Ext T H0 H ∧ Fresh H0 x ∧
  ∀ (a' b' : Addr) (L : List Tri) (H' : Hp), QB.Ext T H0 H' → Tabs T H' → EatN C H0 H' x dx a' b' L tags (least tags F) → Q .non H'
theorem ok_Eater___init__ (X : TX K mg) (TB : LamX.TabB base mg X.lam_c X.lam_P) : FnOk P w K mg base CX0 5 X.d_Eater___init__.a X.d_Eater___init__.fd ["self", "tags", "standings"] (spInit (Tof X) X.c_Eater) := by
  have nd := sc_Eater___init__.nd
  refine X.d_Eater___init__.F.ok sc_Eater___init__ (fun vs H Q E h => ?_) (fun cdv A outer s H vs Q E hr h => ?_)
  · obtain ⟨x, dx, a, b, tags, F, H0, rfl, _⟩ := h
    rfl
  · obtain ⟨x, dx, a, b, tags, F, H0, rfl, hx, ha, hb, to, fo, tb, e0, fx, k⟩ := h
    refine ⟨_, (pss_cons (ps_expr (pe_call (ok_check_tags X) (hr.mono (by decide)) rfl X.d_check_tags.mg X.d_check_tags.F.kp X.d_check_tags.b .nil pass0 (pa_cons (pv 1) pa_nil))) (pss_cons (ps_expr (pe_call (ok_check_standings X) (hr.mono (by decide)) rfl X.d_check_standings.mg X.d_check_standings.F.kp X.d_check_standings.b .nil pass0 (pa_cons (pv 1) (pa_cons (pv 2) pa_nil)))) (pss_cons (ps_fld (pv 0) (pe_callTy (QB.call_listK K) (by rfl) X.n_list QB.bo_list (pa_cons (pv 1) pa_nil)) rfl) (pss_one (ps_fld (pv 0) (pe_call (ok_least_form X TB) (hr.mono (by decide)) rfl X.d_least_form.mg X.d_least_form.F.kp X.d_least_form.b .nil pass0 (pa_cons (pv 1) (pa_cons (pv 2) pa_nil))) rfl))))), ?_⟩
    try dsimp only [Cx.nox, Cx.wish, cxOf]
    have htl := to.len
    refine ⟨_, rfl, a, tags, rfl, ha, to, fun H1 s1 => ?_⟩
    refine ⟨_, rfl, _, rfl, a, b, tags, F, rfl, Same.word s1 ha, Same.form s1 hb, fo, by omega, fun H2 s2 => ?_⟩
    have s12 := s1.trans s2
    refine ⟨_, rfl, ?_⟩
    dsimp only [tNil]
    refine ⟨_, _, rfl, .inl (SqL.of (Same.word s12 ha)), fun l hl => ?_⟩
    have sA : Same H (upd H2 l (.lst (vS tags))) := Same.new s12 hl
    have hxA := sA _ _ hx
    refine ⟨_, rfl, x, _, _, _, rfl, hxA, X.cl_Eater, X.na_Eater__tags, by decide, ?_⟩
    have haA : WordAt (upd H2 l (.lst (vS tags))) l tags := upd_same
    generalize upd H2 l (.lst (vS tags)) = HA at sA hxA haA ⊢
    have eB := (e0.trans (.of sA)).mut (o := .ins X.c_Eater dx [("_tags", .ref l)]) fx hxA
    have tB := tabs_mut (o := .ins X.c_Eater dx [("_tags", .ref l)]) (tb.ext sA) hxA True.intro
    refine ⟨_, rfl, _, rfl, a, b, tags, F, rfl, wordIns (Same.word sA ha) hxA, formIns (Same.form sA hb) hxA, fo.good, fo.words to, by omega, tB, fun p L H3 e3 t3 n3 => ?_⟩
    have hx3 := e3.get (p := x) upd_same
    refine ⟨_, rfl, x, _, _, _, rfl, hx3, X.cl_Eater, X.na_Eater__standings, by show (1 : Nat) < 1000; omega, ?_⟩
    exact k l p L _ ((eB.trans e3).mut fx hx3) (tabs_mut t3 hx3 True.intro) ⟨upd_same, wordIns (e3.word (wordIns haA hxA)) hx3, newIns (n3.old eB) hx3, fx, e0.fresh (.of (s12.free hl))⟩

def spLenE (C : Addr) : Sp := fun vs H Q _ => ∃ (e : Addr) (tags : Word) (G : Form), vs = [.ref e] ∧ EatAt C H e tags G ∧ Q (.int (G.length : Int)) H
theorem ok_Eater___len__ (X : TX K mg) : FnOk P w K mg base CX0 1 X.d_Eater___len__.a X.d_Eater___len__.fd ["self"] (spLenE X.c_Eater) := by
  have nd := sc_Eater___len__.nd
  refine X.d_Eater___len__.F.ok sc_Eater___len__ (fun vs H Q E h => ?_) (fun cdv A outer s H vs Q E hr h => ?_)
  · obtain ⟨e, tags, G, rfl, _⟩ := h
    rfl
  · obtain ⟨e, tags, G, rfl, ⟨dx, a, b, he, ha, hb⟩, k⟩ := h
    refine ⟨_, (pss_one (ps_ret (pe_callB (QB.call_lenK K) (by rfl) X.n_len PySem.boot_len (pa_cons (QB.pe_fldK K (pv 0) rfl) pa_nil)))), ?_⟩
    try dsimp only [Cx.nox, Cx.wish, cxOf]
    obtain ⟨vs, h1, h2⟩ := FormAt.lst hb
    refine ⟨_, rfl, e, _, _, _, _, rfl, he, X.cl_Eater, X.na_Eater__standings, rfl, ?_⟩
    dsimp only [tNil]
    refine ⟨_, _, rfl, .inl (SqL.of h1), ?_⟩
    rw [h2]
    exact k
def spTagsE (C : Addr) : Sp := fun vs H Q _ => ∃ (e : Addr) (tags : Word) (G : Form), vs = [.ref e] ∧ EatAt C H e tags G ∧ ∀ p, H p = none → Q (.ref p) (upd H p (.lst (vS tags)))
theorem ok_Eater_tags (X : TX K mg) : FnOk P w K mg base CX0 1 X.d_Eater_tags.a X.d_Eater_tags.fd ["self"] (spTagsE X.c_Eater) := by
  have nd := sc_Eater_tags.nd
  refine X.d_Eater_tags.F.ok sc_Eater_tags (fun vs H Q E h => ?_) (fun cdv A outer s H vs Q E hr h => ?_)
  · obtain ⟨e, tags, G, rfl, _⟩ := h
    rfl
  · obtain ⟨e, tags, G, rfl, ⟨dx, a, b, he, ha, hb⟩, k⟩ := h
    refine ⟨_, (pss_one (ps_ret (pe_callTy (QB.call_listK K) (by rfl) X.n_list QB.bo_list (pa_cons (QB.pe_fldK K (pv 0) rfl) pa_nil)))), ?_⟩
    try dsimp only [Cx.nox, Cx.wish, cxOf]
    refine ⟨_, rfl, e, _, _, _, _, rfl, he, X.cl_Eater, X.na_Eater__tags, rfl, ?_⟩
    dsimp only [tNil]
    exact ⟨_, _, rfl, .inl (SqL.of ha), k⟩
def spStandingsE (C : Addr) : Sp := fun vs H Q _ => ∃ (e : Addr) (tags : Word) (G : Form), vs = [.ref e] ∧ EatAt C H e tags G ∧ G.length ≤ 10000 ∧ ∀ (p : Addr) (L : List Tri) (H' : Hp), Same H H' → NewF H H' p L G → Q (.ref p) H'
theorem ok_Eater_standings (X : TX K mg) : FnOk P w K mg base CX0 2 X.d_Eater_standings.a X.d_Eater_standings.fd ["self"] (spStandingsE X.c_Eater) := by
  have nd := sc_Eater_standings.nd
  refine X.d_Eater_standings.F.ok sc_Eater_standings (fun vs H Q E h => ?_) (fun cdv A outer s H vs Q E hr h => ?_)
  · obtain ⟨e, tags, G, rfl, _⟩ := h
    rfl
  · obtain ⟨e, tags, G, rfl, ⟨dx, a, b, he, ha, hb⟩, hz, k⟩ := h
    refine ⟨_, (pss_one (ps_ret (pe_call (ok_copied X) (hr.mono (by decide)) rfl X.d_copied.mg X.d_copied.F.kp X.d_copied.b .nil pass0 (pa_cons (QB.pe_fldK K (pv 0) rfl) pa_nil)))), ?_⟩
    try dsimp only [Cx.nox, Cx.wish, cxOf]
    refine ⟨_, rfl, e, _, _, _, _, rfl, he, X.cl_Eater, X.na_Eater__standings, rfl, ?_⟩
    dsimp only [tNil]
    exact ⟨b, G, rfl, hb, hz, k⟩
def spOnE (C : Addr) : Sp := fun vs H Q _ => ∃ (e c : Addr) (tags : Word) (G : Form) (wd : Word), vs = [.ref e, .ref c] ∧ EatAt C H e tags G ∧ WordAt H c wd ∧ Good tags G ∧ (∀ t ∈ wd, t ∈ tags) ∧ wd.length ≤ 200 ∧ (∀ s ∈ G, s.1.length ≤ 10000) ∧
  ∀ (p : Addr) (H' : Hp), Same H H' → H p = none → H' p = some (.lst (vS (make tags G wd))) → Q (.ref p) H'
theorem ok_Eater_on (X : TX K mg) : FnOk P w K mg base CX0 4 X.d_Eater_on.a X.d_Eater_on.fd ["self", "subject"] (spOnE X.c_Eater) := by
  have nd := sc_Eater_on.nd
  refine X.d_Eater_on.F.ok sc_Eater_on (fun vs H Q E h => ?_) (fun cdv A outer s H vs Q E hr h => ?_)
  · obtain ⟨e, c, tags, G, wd, rfl, _⟩ := h
    rfl
  · obtain ⟨e, c, tags, G, wd, rfl, ⟨dx, a, b, he, ha, hb⟩, hw, g, hin, hz, hz2, k⟩ := h
    refine ⟨_, (pss_cons (ps_expr (pe_call (ok_check_word X) (hr.mono (by decide)) rfl X.d_check_word.mg X.d_check_word.F.kp X.d_check_word.b .nil pass0 (pa_cons (QB.pe_fldK K (pv 0) rfl) (pa_cons (pv 1) (pa_cons (pe_gc rfl X.c_LONGEST_SUBJECT) pa_nil))))) (pss_one (ps_ret (pe_call (ok_made X) (hr.mono (by decide)) rfl X.d_made.mg X.d_made.F.kp X.d_made.b .nil pass0 (pa_cons (QB.pe_fldK K (pv 0) rfl) (pa_cons (QB.pe_fldK K (pv 0) rfl) (pa_cons (pv 1) pa_nil))))))), ?_⟩
    try dsimp only [Cx.nox, Cx.wish, cxOf]
    refine ⟨_, rfl, ⟨e, _, _, _, _, rfl, he, X.cl_Eater, X.na_Eater__tags, rfl, ?_⟩⟩
    refine ⟨_, rfl, ?_⟩
    refine ⟨a, c, tags, wd, 200, rfl, ha, hw, by omega, hin, fun H1 s1 => ?_⟩
    refine ⟨_, rfl, e, _, _, _, _, rfl, s1 _ _ he, X.cl_Eater, X.na_Eater__tags, rfl, ?_⟩
    refine ⟨_, rfl, e, _, _, _, _, rfl, s1 _ _ he, X.cl_Eater, X.na_Eater__standings, rfl, ?_⟩
    refine ⟨_, rfl, ?_⟩
    exact ⟨a, b, c, tags, G, wd, rfl, Same.word s1 ha, Same.form s1 hb, Same.word s1 hw, g, hin, by omega, hz2, fun p H2 s2 n2 h2 => k p H2 (s1.trans s2) (s1.free n2) h2⟩
def spEqE (K : PySem.W.Frag) (C : Addr) : Sp := fun vs H Q _ => ∃ (e : Addr) (y : V) (tags : Word) (G : Form), vs = [.ref e, y] ∧ EatAt C H e tags G ∧ OkWord tags ∧ OkForm G ∧
  ((∃ (f : Addr) (tags2 : Word) (G2 : Form), y = .ref f ∧ EatAt C H f tags2 G2 ∧ OkWord tags2 ∧ OkForm G2 ∧ Q (.bl (decide (tags = tags2) && decide (G = G2))) H) ∨
   (∃ t, TyOf K H y t ∧ PySem.W.kitOne K t (.ref C) = some false ∧ Q (.bl false) H))
theorem ok_Eater___eq__ (X : TX K mg) : FnOk P w K mg base CX0 1 X.d_Eater___eq__.a X.d_Eater___eq__.fd ["self", "other"] (spEqE K X.c_Eater) := by
  have nd := sc_Eater___eq__.nd
  refine X.d_Eater___eq__.F.ok sc_Eater___eq__ (fun vs H Q E h => ?_) (fun cdv A outer s H vs Q E hr h => ?_)
  · obtain ⟨e, y, tags, G, rfl, _⟩ := h
    rfl
  · obtain ⟨e, y, tags, G, rfl, ⟨dx, a, b, he, ha, hb⟩, ot, oG, k⟩ := h
    refine ⟨_, (pss_cons (ps_if (pt_not (pt_val (pe_callB (QB.call_isiK K) (by rfl) X.n_isinstance QB.bo_isinstance (pa_cons (pv 1) (pa_cons (pe_glob (v := .ref X.c_Eater) rfl X.m_Eater rfl) pa_nil))))) (pss_one (ps_ret pe_bl)) pss_nil) (pss_one (ps_ret (pe_and (pe_cmpR (QB.op_eqDK K hr.units) (QB.pe_fldK K (pv 0) rfl) (QB.pe_fldK K (pv 1) rfl) (nomark _)) (pe_one (pe_cmpR (QB.op_eqDK K hr.units) (QB.pe_fldK K (pv 0) rfl) (QB.pe_fldK K (pv 1) rfl) (nomark _))))))), ?_⟩
    try dsimp only [Cx.nox, Cx.wish, cxOf]
    rcases k with ⟨f, tags2, G2, rfl, ⟨dx2, a2, b2, hf, ha2, hb2⟩, ot2, oG2, q⟩ | ⟨t, ht, hk, q⟩
    · refine ⟨_, rfl, ?_⟩
      dsimp only [tNil, tCons]
      refine ⟨_, _, _, _, true, rfl, .own _, .base (X.oc_Eater.ty X.cl_Eater hf), QO.OwnC.self, true, rfl, ?_⟩
      refine iteF ?_
      refine ⟨_, rfl, e, _, _, _, _, rfl, he, X.cl_Eater, X.na_Eater__tags, rfl, ?_⟩
      refine ⟨_, rfl, f, _, _, _, _, rfl, hf, X.cl_Eater, X.na_Eater__tags, rfl, ?_⟩
      refine eq_wd ha ha2 ot ot2 ?_
      refine ⟨_, rfl, ?_⟩
      by_cases z : tags = tags2
      · rw [decide_eq_true z] at q ⊢
        refine iteT ?_
        refine ⟨_, rfl, e, _, _, _, _, rfl, he, X.cl_Eater, X.na_Eater__standings, rfl, ?_⟩
        refine ⟨_, rfl, f, _, _, _, _, rfl, hf, X.cl_Eater, X.na_Eater__standings, rfl, ?_⟩
        exact eq_form hb hb2 oG oG2 q
      · rw [decide_eq_false z] at q ⊢
        exact iteF q
    · refine ⟨_, rfl, ?_⟩
      dsimp only [tNil, tCons]
      refine ⟨_, _, _, _, false, rfl, .own _, .base ht, hk, false, rfl, ?_⟩
      exact iteT q
end
end Law
end

section
set_option Elab.async false
set_option linter.all false
set_option maxRecDepth 100000
set_option maxHeartbeats 4000000
namespace Law
open PySem PySem.Spec PyProof.Rows L2 LamX QB QM
section
variable {P : Program} {w : World} {K : PySem.W.Frag} {mg : Str → Option Value} {base : Heap}

/-! ### what stays, but for some lists -/
def Exc (M : List Addr) (H H' : Hp) : Prop := ∀ a o, a ∉ M → H a = some o → H' a = some o
theorem Exc.refl {M : List Addr} {H : Hp} : Exc M H H := fun _ _ _ h => h
theorem Exc.trans {M : List Addr} {H H1 H2 : Hp} (a : Exc M H H1) (b : Exc M H1 H2) : Exc M H H2 := fun c o n h => b c o n (a c o n h)
theorem Exc.of {M : List Addr} {H H' : Hp} (a : Same H H') : Exc M H H' := fun c o _ h => a c o h
theorem Exc.mono {M N : List Addr} {H H' : Hp} (a : Exc M H H') (h : ∀ x ∈ M, x ∈ N) : Exc N H H' := fun c o n e => a c o (fun z => n (h c z)) e
theorem Exc.new {M : List Addr} {H H' : Hp} {p : Addr} {o : HO} (a : Exc M H H') (h : H' p = none) : Exc M H (upd H' p o) := a.trans (.of (same_new h))
theorem Exc.mut {M : List Addr} {H H' : Hp} {p : Addr} {o : HO} (a : Exc M H H') (h : p ∈ M ∨ H p = none) : Exc M H (upd H' p o) := fun c u n e => by
  have : c ≠ p := fun z => by
    subst z
    rcases h with h | h
    · exact n h
    · rw [h] at e
      cases e
  rw [upd_ne this]
  exact a c u n e
theorem Exc.free {M : List Addr} {H H' : Hp} {p : Addr} (a : Exc M H H') (h : H' p = none) (n : p ∉ M) : H p = none := by
  cases e : H p with
  | none => rfl
  | some o =>
    rw [a p o n e] at h
    cases h
/-- the pile of draws -/
def PileAt (H : Hp) (p : Addr) : Prop := ∃ d c n : Int, H p = some (.lst [.int d, .int c, .int n])
theorem PileAt.free {H H' : Hp} {p q : Addr} (a : Exc [p] H H') (h : PileAt H p) (h' : PileAt H' p) (e : H' q = none) : H q = none := by
  have : q ≠ p := fun z => by
    subst z
    obtain ⟨_, _, _, h⟩ := h'
    rw [h] at e
    cases e
  exact a.free e (by simpa using this)

def spMixed : Sp := fun vs H Q _ => ∃ c k : Int, vs = [.int c, .int k] ∧ ∀ r : Int, Q (.int r) H
theorem emod_lt {i j : Int} (h : 0 < j) : 0 ≤ i % j ∧ i % j < j := ⟨Int.emod_nonneg i (by omega), Int.emod_lt_of_pos i h⟩
theorem ok__law_mixed (X : TX K mg) : FnOk P w K mg base CX0 1 X.d__law_mixed.a X.d__law_mixed.fd ["cell", "k"] spMixed := by
  have nd := sc__law_mixed.nd
  refine X.d__law_mixed.F.ok sc__law_mixed (fun vs H Q E h => ?_) (fun cdv A outer s H vs Q E hr h => ?_)
  · obtain ⟨c, k, rfl, _⟩ := h
    rfl
  · obtain ⟨c, k, rfl, q⟩ := h
    refine ⟨_, (pss_cons (ps_set (i := 2) nd rfl (Or.inl rfl) (pe_op op_mod (pe_callTy call_int1 (by rfl) X.n_int QB.bo_int (pa_cons (pe_op op_add (pe_op op_add (pe_op op_mul (pe_op op_mod (pe_callTy call_int1 (by rfl) X.n_int QB.bo_int (pa_cons (pv 0) pa_nil)) pe_int) pe_int) (pe_op op_mul (pv 1) pe_int)) pe_int) pa_nil)) pe_int)) (pss_cons (ps_set (i := 2) nd rfl (Or.inl rfl) (pe_op op_mod (pe_callTy call_int1 (by rfl) X.n_int QB.bo_int (pa_cons (pe_op op_mul (pv 2) (pv 2)) pa_nil)) pe_int)) (pss_one (ps_ret (pe_op op_fdiv (pe_op op_mod (pe_callTy call_int1 (by rfl) X.n_int QB.bo_int (pa_cons (pe_op op_mul (pv 2) (pv 2)) pa_nil)) pe_int) pe_int))))), ?_⟩
    try dsimp only [Cx.nox, Cx.wish, cxOf]
    have m1 : (0 : Int) < 2147483647 := by decide
    have m2 : (0 : Int) < 2147483629 := by decide
    have m3 : (0 : Int) < 2147483587 := by decide
    refine ⟨_, rfl, .inl ⟨_, rfl, _, _, rfl, rfl, m1, _, _, rfl, rfl, .inr ⟨by decide, by decide⟩, _, rfl, _, _, rfl, rfl, .inr ⟨by decide, by decide⟩, _, _, rfl, rfl, _, _, rfl, rfl, .inl ⟨_, rfl, _, _, rfl, rfl, m1, ?_⟩⟩⟩
    refine ⟨_, rfl, _, rfl, _, _, rfl, rfl, ?_, .inl ⟨_, rfl, _, _, rfl, rfl, m2, ?_⟩⟩
    · have := emod_lt (i := c % 2147483647 * 48271 + k * 69621 + 11) m1
      refine .inl ⟨?_, ?_⟩ <;> omega
    refine ⟨_, rfl, _, rfl, _, _, rfl, rfl, ?_, .inl ⟨_, rfl, _, _, rfl, rfl, m3, ?_⟩⟩
    · have := emod_lt (i := (c % 2147483647 * 48271 + k * 69621 + 11) % 2147483647 * ((c % 2147483647 * 48271 + k * 69621 + 11) % 2147483647)) m2
      refine .inl ⟨?_, ?_⟩ <;> omega
    exact ⟨_, _, rfl, rfl, ⟨by decide, by decide⟩, q _⟩
theorem mul50 : CMulW ((10 : Int) ^ Int.toNat 50) ((10 : Int) ^ Int.toNat 50) := wide_mul (a := 200) (b := 200) (by decide +kernel) (by decide +kernel) (by decide) (by decide) (by decide)
theorem mul100 : CMulW ((10 : Int) ^ Int.toNat 50 * (10 : Int) ^ Int.toNat 50) ((10 : Int) ^ Int.toNat 50) := wide_mul (a := 400) (b := 200) (by decide +kernel) (by decide +kernel) (by decide) (by decide) (by decide)
theorem pos150 : (0 : Int) < (10 : Int) ^ Int.toNat 50 * (10 : Int) ^ Int.toNat 50 * (10 : Int) ^ Int.toNat 50 := by decide +kernel
def spPile (K : PySem.W.Frag) : Sp := fun vs H Q _ => ∃ (l : Addr) (ns : List Int) (k : Nat), vs = [.ref l, .int (k : Int)] ∧ SqL K H l (ns.map V.int) ∧ ∀ (p : Addr) (H' : Hp), Same H H' → H p = none → PileAt H' p → Q (.ref p) H'
theorem ok__law_pile (X : TX K mg) : FnOk P w K mg base CX0 3 X.d__law_pile.a X.d__law_pile.fd ["script", "k"] (spPile K) := by
  have nd := sc__law_pile.nd
  refine X.d__law_pile.F.ok sc__law_pile (fun vs H Q E h => ?_) (fun cdv A outer s H vs Q E hr h => ?_)
  · obtain ⟨l, ns, k, rfl, _⟩ := h
    rfl
  · obtain ⟨l, ns, k, rfl, hl, q⟩ := h
    refine ⟨_, (pss_cons (ps_set (i := 2) nd rfl (Or.inl rfl) pe_int) (pss_cons (ps_if (pt_cmpR op_lt (pv 1) (pe_callB (QB.call_lenK K) (by rfl) X.n_len PySem.boot_len (pa_cons (pv 0) pa_nil)) (nomark _)) (pss_one (ps_set (i := 2) nd rfl (Or.inl rfl) (pe_ix (QB.ix_listK K) (pv 0) (pv 1) (fun _ _ => rfl)))) pss_nil) (pss_cons (ps_set (i := 3) nd rfl (Or.inl rfl) (pe_ix (QB.ix_listK K) (pe_lst (pa_cons pe_int (pa_cons (pe_op op_mod (pe_callTy call_int1 (by rfl) X.n_int QB.bo_int (pa_cons (pv 2) pa_nil)) (pe_op op_mulW (pe_op op_mulW (pe_op op_pow pe_int pe_int) (pe_op op_pow pe_int pe_int)) (pe_op op_pow pe_int pe_int))) pa_nil))) (pe_callTy call_int1 (by rfl) X.n_int QB.bo_int (pa_cons (pe_cmpR op_ge (pe_callB call_abs (by rfl) X.n_abs QB.bo_abs (pa_cons (pv 2) pa_nil)) (pe_op op_pow pe_int pe_int) (nomark _)) pa_nil)) (fun _ _ => rfl))) (pss_one (ps_ret (pe_lst (pa_cons (pv 3) (pa_cons (pe_op op_mod (pe_callTy call_int1 (by rfl) X.n_int QB.bo_int (pa_cons (pv 2) pa_nil)) pe_int) (pa_cons (pe_op op_mul pe_int (pv 1)) pa_nil))))))))), ?_⟩
    try dsimp only [Cx.nox, Cx.wish, cxOf]
    refine ⟨_, rfl, _, rfl, _, _, rfl, .inl hl, ?_⟩
    refine ⟨_, _, rfl, rfl, _, rfl, ?_⟩
    by_cases hj : k < ns.length
    case' pos =>
      rw [decide_eq_true (by rw [List.length_map]; omega)]
      refine iteT ?_
      refine ⟨_, rfl, _, rfl, l, ns.map V.int, (k : Int), _, rfl, rfl, hl, atI_nat (v := V.int (ns[k]'hj)) (by rw [List.getElem?_map, List.getElem?_eq_getElem hj]; rfl), ?_⟩
      generalize ns[k]'hj = c
    case' neg =>
      rw [decide_eq_false (by rw [List.length_map]; omega)]
      refine iteF ?_
    all_goals
      refine ⟨_, rfl, .inl ⟨_, rfl, ?_⟩⟩
      refine ⟨_, _, rfl, rfl, ⟨by decide, by decide, by decide⟩, _, _, rfl, rfl, ⟨by decide, by decide, by decide⟩, _, _, rfl, rfl, mul50, _, _, rfl, rfl, ⟨by decide, by decide, by decide⟩, _, _, rfl, rfl, mul100, _, _, rfl, rfl, pos150, ?_⟩
      refine ⟨by show 2 ≤ sizeLine; decide, fun t ht => ?_⟩
      have s1 : ∀ o, Same H (upd H t o) := fun o => same_new ht
      refine ⟨_, rfl, _, rfl, _, _, rfl, rfl, ⟨by decide, by decide, by decide⟩, _, _, rfl, rfl, .inr ⟨_, rfl, ?_⟩⟩
      generalize decide ((10 : Int) ^ Int.toNat 18 ≤ _) = bb
      cases bb <;>
      · refine ⟨t, _, _, _, rfl, rfl, SqL.of upd_same, rfl, ?_⟩
        refine ⟨_, rfl, _, rfl, .inl ⟨_, rfl, _, _, rfl, rfl, by show (0 : Int) < 2147483647; decide, _, rfl, _, _, rfl, rfl, .inl ⟨by decide, by decide⟩, by show 3 ≤ sizeLine; decide, fun p hp => ?_⟩⟩
        exact q p _ (Same.new (s1 _) hp) ((s1 _).free hp) ⟨_, _, _, upd_same⟩
def spTake : Sp := fun vs H Q _ => ∃ (p : Addr) (m : Nat), vs = [.ref p, .int (m : Int)] ∧ 0 < m ∧ m ≤ 1000 ∧ PileAt H p ∧ ∀ (r : Nat) (H' : Hp), r < m → Exc [p] H H' → PileAt H' p → Q (.int (r : Int)) H'
theorem nat_of_mod {i : Int} {m : Nat} (h : 0 < m) : ∃ r : Nat, r < m ∧ i % (m : Int) = (r : Int) := by
  have := emod_lt (i := i) (show (0 : Int) < (m : Int) by omega)
  exact ⟨(i % (m : Int)).toNat, by omega, by omega⟩
theorem ok__law_take (X : TX K mg) : FnOk P w K mg base CX0 3 X.d__law_take.a X.d__law_take.fd ["pile", "many"] spTake := by
  have nd := sc__law_take.nd
  refine X.d__law_take.F.ok sc__law_take (fun vs H Q E h => ?_) (fun cdv A outer s H vs Q E hr h => ?_)
  · obtain ⟨p, m, rfl, _⟩ := h
    rfl
  · obtain ⟨p, m, rfl, m0, m1, ⟨d, c, n, hp⟩, q⟩ := h
    refine ⟨_, (pss_cons (ps_if (pt_cmpR (QB.op_inK K) (pe_ix (QB.ix_listK K) (pv 0) pe_int (fun _ _ => rfl)) (pe_lst (pa_cons pe_int (pa_cons (pe_un un_neg pe_int) pa_nil))) rfl) (pss_cons (ps_asg (pe_op op_add (pe_ix (QB.ix_listK K) (pv 0) pe_int (fun _ _ => rfl)) pe_int) (pg_sub (pv 0) pe_int set_list)) (pss_one (ps_ret (pe_op op_mod (pe_callTy call_int1 (by rfl) X.n_int QB.bo_int (pa_cons (pe_call (ok__law_mixed X) (hr.mono (by decide)) rfl X.d__law_mixed.mg X.d__law_mixed.F.kp X.d__law_mixed.b .nil pass0 (pa_cons (pe_ix (QB.ix_listK K) (pv 0) pe_int (fun _ _ => rfl)) (pa_cons (pe_ix (QB.ix_listK K) (pv 0) pe_int (fun _ _ => rfl)) pa_nil))) pa_nil)) (pv 1))))) pss_nil) (pss_cons (ps_set (i := 2) nd rfl (Or.inl rfl) (pe_op op_mod (pe_callTy call_int1 (by rfl) X.n_int QB.bo_int (pa_cons (pe_ix (QB.ix_listK K) (pv 0) pe_int (fun _ _ => rfl)) pa_nil)) (pv 1))) (pss_cons (ps_asg (pe_op op_fdiv (pe_ix (QB.ix_listK K) (pv 0) pe_int (fun _ _ => rfl)) (pv 1)) (pg_sub (pv 0) pe_int set_list)) (pss_one (ps_ret (pv 2)))))), ?_⟩
    try dsimp only [Cx.nox, Cx.wish, cxOf]
    refine ⟨_, rfl, p, _, _, _, rfl, rfl, SqL.of hp, rfl, ?_⟩
    refine ⟨_, rfl, by show 2 ≤ sizeLine; decide, fun t ht => ?_⟩
    have s1 := same_new (o := .lst [V.int 0, V.int (-1)]) ht
    have hp1 := s1 _ _ hp
    refine ⟨t, _, rfl, .inl (SqL.of upd_same), rfl, rfl, _, rfl, ?_⟩
    generalize upd H t (.lst [V.int 0, V.int (-1)]) = H1 at s1 hp1 ⊢
    cases inV (V.int d) [V.int 0, V.int (-1)]
    · refine iteF ?_
      refine ⟨_, rfl, p, _, _, _, rfl, rfl, SqL.of hp1, rfl, .inl ⟨_, rfl, ?_⟩⟩
      obtain ⟨r, hr1, hr2⟩ := nat_of_mod (i := d) m0
      refine ⟨_, rfl, _, _, rfl, rfl, by show (0 : Int) < m; omega, ?_⟩
      refine ⟨_, rfl, p, _, _, _, rfl, rfl, SqL.of hp1, rfl, _, rfl, _, _, rfl, rfl, ⟨by omega, by omega⟩, ?_⟩
      refine ⟨_, rfl, p, _, _, 0, rfl, rfl, hp1, rfl, _, rfl, ?_⟩
      show Q (.int (d % (m : Int))) _
      rw [hr2]
      exact q r _ hr1 ((Exc.of s1).mut (.inl (by simp))) ⟨_, _, _, upd_same⟩
    · refine iteT ?_
      refine ⟨_, rfl, p, _, _, _, rfl, rfl, SqL.of hp1, rfl, _, _, rfl, rfl, ?_⟩
      refine ⟨_, rfl, p, _, _, 2, rfl, rfl, hp1, rfl, ?_⟩
      generalize hH2 : upd H1 p _ = H2
      have hp2 : H2 p = some (.lst [V.int d, V.int c, V.int (n + 1)]) := by rw [← hH2]; exact upd_same
      have s2 : Exc [p] H H2 := by rw [← hH2]; exact (Exc.of s1).mut (.inl (by simp))
      refine ⟨_, rfl, p, _, _, _, rfl, rfl, SqL.of hp2, rfl, ?_⟩
      refine ⟨_, rfl, p, _, _, _, rfl, rfl, SqL.of hp2, rfl, ?_⟩
      refine ⟨_, _, rfl, fun r0 => ?_⟩
      refine .inl ⟨_, rfl, ?_⟩
      obtain ⟨r, hr1, hr2⟩ := nat_of_mod (i := r0) m0
      refine ⟨_, rfl, _, _, rfl, rfl, by show (0 : Int) < m; omega, ?_⟩
      show Q (.int (r0 % (m : Int))) H2
      rw [hr2]
      exact q r _ hr1 s2 ⟨_, _, _, hp2⟩
end
end Law
end

section
set_option Elab.async false
set_option linter.all false
set_option maxRecDepth 100000
set_option maxHeartbeats 4000000
namespace Law
open PySem PySem.Spec PyProof.Rows L2 LamX QB QM TL QT
section
variable {P : Program} {w : World} {K : PySem.W.Frag} {mg : Str → Option Value} {base : Heap}
theorem PileAt.upd {H : Hp} {p q : Addr} {o : HO} (h : PileAt H p) (n : p ≠ q) : PileAt (L2.upd H q o) p := by
  obtain ⟨d, c, k, e⟩ := h
  exact ⟨d, c, k, (upd_ne n).trans e⟩
theorem PileAt.ne {H : Hp} {p q : Addr} (h : PileAt H p) (n : H q = none) : p ≠ q := fun z => by
  subst z
  obtain ⟨_, _, _, e⟩ := h
  rw [n] at e
  cases e
theorem PileAt.same {H H' : Hp} {p : Addr} (h : PileAt H p) (s : Same H H') : PileAt H' p := by
  obtain ⟨d, c, k, e⟩ := h
  exact ⟨d, c, k, s _ _ e⟩
theorem sum_ones : ∀ l : List Nat, ((l.map fun y => (⟨#[97 + y]⟩ : Str)).map (·.length)).sum = l.length
  | [] => rfl
  | y :: l => by
    rw [List.map_cons, List.map_cons, List.sum_cons, sum_ones l, List.length_cons]
    show 1 + l.length = l.length + 1
    omega
def paces : List Nat := [1, 3, 5, 7, 9, 11, 15, 17, 19, 21, 23, 25]
def plains : Word := ["re", "fwd", "list", "r", "aw", "ref", "a", "fw"]
theorem paces_inj : ∀ c ∈ paces, ∀ sh < 26, ∀ i < 6, ∀ j < 6, 97 + (sh + c * i) % 26 = 97 + (sh + c * j) % 26 → i = j := by decide +kernel
theorem plains_nd : ∀ k < 3, ∀ m < 7, ((plains.drop k ++ plains).take m).Nodup := by decide +kernel
theorem plains_len : ∀ k < 3, ∀ m < 7, ((plains.drop k ++ plains).take m).length = m := by decide +kernel
theorem plains_txt : ∀ t ∈ plains, (decide (1 ≤ t.length) && decide (t.length ≤ 8) && t.cps.toList.all fun c => decide (c ∈ letters.cps.toList)) = true := by decide +kernel
theorem plains_tags {k m : Nat} (hk : k < 3) (h0 : 1 ≤ m) (hm : m ≤ 6) : TagsOk ((plains.drop k ++ plains).take m) := by
  have h2 := plains_len k hk m (by omega)
  refine ⟨by rw [h2]; exact h0, by rw [h2]; exact hm, plains_nd k hk m (by omega), fun t ht => ?_⟩
  have hp : t ∈ plains := by
    rcases List.mem_append.mp (List.mem_of_mem_take ht) with h | h
    · exact List.mem_of_mem_drop h
    · exact h
  have h := plains_txt t hp
  rw [Bool.and_eq_true, Bool.and_eq_true, List.all_eq_true] at h
  exact ⟨of_decide_eq_true h.1.1, of_decide_eq_true h.1.2, fun c hc => of_decide_eq_true (h.2 c hc)⟩
/-- one drawn name -/
def nameOf (w : Str) (at_ sh pc i : Nat) : Str := cutS w none (some (at_ : Int)) ++ (⟨#[97 + (sh + pc * i) % 26]⟩ : Str) ++ cutS w (some (at_ : Int)) none
theorem tl_name (w : Str) (at_ sh pc i : Nat) : tl (nameOf w at_ sh pc i) = (tl w).take at_ ++ [97 + (sh + pc * i) % 26] ++ (tl w).drop at_ := by
  unfold nameOf
  rw [tl_append, tl_append, tl_cutL, tl_cutR]
def tailB (w : Str) : Str := if w.length < 7 then "a" else Str.empty
def tailOf (w : Str) (i : Nat) : Str := if i % 2 = 0 then Str.empty else tailB w
theorem tailB_len (w : Str) : (tailB w).length ≤ 1 := by
  unfold tailB
  split
  · decide
  · decide
theorem tailOf_len (w : Str) (i : Nat) : (tailOf w i).length ≤ 1 := by
  unfold tailOf
  split
  · decide
  · exact tailB_len w
theorem name_len (w : Str) (at_ sh pc i : Nat) : (nameOf w at_ sh pc i).length = w.length + 1 := by
  have e1 : (nameOf w at_ sh pc i).length = (tl (nameOf w at_ sh pc i)).length := len_tl _
  have e2 : w.length = (tl w).length := len_tl w
  have e3 : ((tl w).take at_).length + ((tl w).drop at_).length = (tl w).length := by rw [← List.length_append, List.take_append_drop]
  rw [e1, tl_name, List.length_append, List.length_append, e2]
  simp only [List.length_cons, List.length_nil]
  omega
theorem cut_lens (w : Str) (k : Nat) : (cutS w none (some (k : Int))).length ≤ w.length ∧ (cutS w (some (k : Int)) none).length ≤ w.length := by
  have e1 : (cutS w none (some (k : Int))).length = ((tl w).take k).length := (len_tl _).trans (congrArg List.length (tl_cutL w k))
  have e2 : (cutS w (some (k : Int)) none).length = ((tl w).drop k).length := (len_tl _).trans (congrArg List.length (tl_cutR w k))
  have e3 : w.length = (tl w).length := len_tl w
  rw [e1, e2, e3, List.length_take, List.length_drop]
  exact ⟨Nat.min_le_right _ _, Nat.sub_le _ _⟩
theorem len_add (x y : Str) : (x ++ y).length = x.length + y.length := by
  have e1 : (x ++ y).length = (tl (x ++ y)).length := len_tl _
  have e2 : x.length = (tl x).length := len_tl x
  have e3 : y.length = (tl y).length := len_tl y
  rw [e1, tl_append, List.length_append, e2, e3]
theorem tail_cases (w : Str) (i : Nat) : (tl (tailOf w i) = [] ∨ (w.length < 7 ∧ tl (tailOf w i) = [97])) := by
  unfold tailOf tailB
  split
  · exact .inl rfl
  · split
    · exact .inr ⟨by assumption, rfl⟩
    · exact .inl rfl
theorem names_tags {w : Str} {at_ sh pc m : Nat} (hw : w.length < 8) (hc : ∀ c ∈ tl w, 97 ≤ c ∧ c < 123) (hs : sh < 26) (hp : pc ∈ paces) (h0 : 1 ≤ m) (hm : m ≤ 6) : TagsOk ((List.range m).map fun i => nameOf w at_ sh pc i ++ tailOf w i) := by
  have e : ∀ i, tl (nameOf w at_ sh pc i ++ tailOf w i) = (tl w).take at_ ++ [97 + (sh + pc * i) % 26] ++ (tl w).drop at_ ++ tl (tailOf w i) := fun i => by rw [tl_append, tl_name]
  refine ⟨by simpa using h0, by simpa using hm, ?_, fun t ht => ?_⟩
  · refine List.pairwise_map.mpr (List.nodup_range.imp_of_mem fun {i j} hi hj hne z => hne ?_)
    have z2 : tl (nameOf w at_ sh pc i ++ tailOf w i) = tl (nameOf w at_ sh pc j ++ tailOf w j) := congrArg tl z
    rw [e, e] at z2
    rw [List.mem_range] at hi hj
    exact paces_inj pc hp sh hs i (by omega) j (by omega) (mid_inj z2)
  · obtain ⟨i, _, rfl⟩ := List.mem_map.mp ht
    have hl : (nameOf w at_ sh pc i ++ tailOf w i).length = w.length + 1 + (tl (tailOf w i)).length := by
      have e1 : (nameOf w at_ sh pc i ++ tailOf w i).length = (tl (nameOf w at_ sh pc i ++ tailOf w i)).length := len_tl _
      have e2 : w.length = (tl w).length := len_tl w
      have e3 : ((tl w).take at_).length + ((tl w).drop at_).length = (tl w).length := by rw [← List.length_append, List.take_append_drop]
      rw [e1, e, List.length_append, List.length_append, List.length_append, e2]
      simp only [List.length_cons, List.length_nil]
      omega
    refine ⟨by omega, ?_, fun c hcm => ?_⟩
    · rcases tail_cases w i with h | ⟨h1, h2⟩
      · rw [h] at hl
        simp at hl
        omega
      · rw [h2] at hl
        simp at hl
        omega
    · refine (abc_mem (c := c)).mpr ?_
      have hcm : c ∈ tl (nameOf w at_ sh pc i ++ tailOf w i) := hcm
      rw [e] at hcm
      rcases List.mem_append.mp hcm with h | h
      · rcases List.mem_append.mp h with h | h
        · rcases List.mem_append.mp h with h | h
          · exact hc c (List.mem_of_mem_take h)
          · rw [List.mem_singleton.mp h]
            omega
        · exact hc c (List.mem_of_mem_drop h)
      · rcases tail_cases w i with h' | ⟨_, h'⟩
        · rw [h'] at h
          cases h
        · rw [h', List.mem_singleton] at h
          omega
def spTags : Sp := fun vs H Q _ => ∃ (p : Addr) (m : Nat), vs = [.ref p, .int (m : Int)] ∧ 1 ≤ m ∧ m ≤ 6 ∧ PileAt H p ∧ ∀ (tags : Word) (q : Addr) (H' : Hp), TagsOk tags → tags.length = m → Exc [p] H H' → PileAt H' p → H q = none → WordAt H' q tags → Q (.ref q) H'
theorem ok__law_tags (X : TX K mg) : FnOk P w K mg base CX0 4 X.d__law_tags.a X.d__law_tags.fd ["pile", "many"] spTags := by
  have nd := sc__law_tags.nd
  refine X.d__law_tags.F.ok sc__law_tags (fun vs H Q E h => ?_) (fun cdv A outer s H vs Q E hr h => ?_)
  · obtain ⟨p, m, rfl, _⟩ := h
    rfl
  · obtain ⟨p, m, rfl, m0, m1, hp, q⟩ := h
    refine ⟨_, (pss_cons (ps_set (i := 2) nd rfl (Or.inr rfl) pe_str) (pss_cons (ps_set (i := 3) nd rfl (Or.inr rfl) (pe_join pe_str (pe_lc (own := [("k", 10)]) (g := gName 10) (tt := tYes) rfl nd (pi_range1 (by rfl) X.n_range (pa_cons (pe_call (ok__law_take X) (hr.mono (by decide)) rfl X.d__law_take.mg X.d__law_take.F.kp X.d__law_take.b .nil pass0 (pa_cons (pv 0) (pa_cons pe_int pa_nil))) pa_nil)) (blkOk_by (N := ["pile", "many", "letters", "stem", "at", "shift", "pace", "plain", "tail", "some", "k", "name"]) (sc := defScope s__law_tags) (by decide +kernel)) (fun _ _ _ _ _ => pg_name (i := 10) nd rfl (Or.inl rfl)) (fun _ _ _ _ _ => pts_nil) (fun _ _ _ _ _ => (pe_item_str (pv 2) (pe_call (ok__law_take X) (hr.mono (by decide)) rfl X.d__law_take.mg X.d__law_take.F.kp X.d__law_take.b .nil pass0 (pa_cons (pv 0) (pa_cons pe_int pa_nil))) (fun _ _ => rfl)))))) (pss_cons (ps_set (i := 4) nd rfl (Or.inr rfl) (pe_call (ok__law_take X) (hr.mono (by decide)) rfl X.d__law_take.mg X.d__law_take.F.kp X.d__law_take.b .nil pass0 (pa_cons (pv 0) (pa_cons (pe_op op_add (pe_callB call_len_str (by rfl) X.n_len PySem.boot_len (pa_cons (pv 3) pa_nil)) pe_int) pa_nil)))) (pss_cons (ps_set (i := 5) nd rfl (Or.inr rfl) (pe_call (ok__law_take X) (hr.mono (by decide)) rfl X.d__law_take.mg X.d__law_take.F.kp X.d__law_take.b .nil pass0 (pa_cons (pv 0) (pa_cons pe_int pa_nil)))) (pss_cons (ps_set (i := 6) nd rfl (Or.inr rfl) (pe_ix (QB.ix_listK K) (pe_lst (pa_cons pe_int (pa_cons pe_int (pa_cons pe_int (pa_cons pe_int (pa_cons pe_int (pa_cons pe_int (pa_cons pe_int (pa_cons pe_int (pa_cons pe_int (pa_cons pe_int (pa_cons pe_int (pa_cons pe_int pa_nil))))))))))))) (pe_call (ok__law_take X) (hr.mono (by decide)) rfl X.d__law_take.mg X.d__law_take.F.kp X.d__law_take.b .nil pass0 (pa_cons (pv 0) (pa_cons pe_int pa_nil))) (fun _ _ => rfl))) (pss_cons (ps_if (pt_cmpR op_eq (pe_op op_mod (pv 5) pe_int) pe_int (nomark _)) (pss_cons (ps_set (i := 7) nd rfl (Or.inl rfl) (pe_lst (pa_cons pe_str (pa_cons pe_str (pa_cons pe_str (pa_cons pe_str (pa_cons pe_str (pa_cons pe_str (pa_cons pe_str (pa_cons pe_str pa_nil)))))))))) (pss_one (ps_ret (pe_slice (QB.sl_listK K) (pe_op op_cat (pe_slice (QB.sl_listK K) (pv 7) (po_some (pe_op op_mod (pe_op op_fdiv (pv 5) pe_int) pe_int)) po_none) (pv 7)) po_none (po_some (pv 1)))))) pss_nil) (pss_cons (ps_set (i := 8) nd rfl (Or.inr rfl) (pe_op QO.op_mul_str pe_str (pe_callTy call_int1 (by rfl) X.n_int QB.bo_int (pa_cons (pe_cmpR op_lt (pe_callB call_len_str (by rfl) X.n_len PySem.boot_len (pa_cons (pv 3) pa_nil)) pe_int (nomark _)) pa_nil)))) (pss_cons (ps_setLc (i := 9) (own := [("k", 10)]) (g := gName 10) (tt := tYes) rfl nd rfl rfl (sw_true rfl rfl rfl (by decide +kernel)) (pi_range1 (by rfl) X.n_range (pa_cons (pv 1) pa_nil)) (blkOk_by (N := ["pile", "many", "letters", "stem", "at", "shift", "pace", "plain", "tail", "some", "k", "name"]) (sc := defScope s__law_tags) (by decide +kernel)) (fun _ _ _ _ _ => pg_name (i := 10) nd rfl (Or.inl rfl)) (fun _ _ _ _ _ => pts_nil) (fun _ _ _ _ _ => (pe_op op_add_str (pe_op op_add_str (pe_slice sl_str (pv 3) po_none (po_some (pv 4))) (pe_item_str (pv 2) (pe_op op_mod (pe_op op_add (pv 5) (pe_op op_mul (pv 6) (pv 10))) pe_int) (fun _ _ => rfl))) (pe_slice sl_str (pv 3) (po_some (pv 4)) po_none)))) (pss_one (ps_ret (pe_lc (own := [("k", 10), ("name", 11)]) (g := gTup K 2 (gCons (gName 10) (gCons (gName 11) (gNil)))) (tt := tYes) rfl nd (QB.pi_enumK K (by rfl) X.n_enumerate (pa_cons (pv 9) pa_nil)) (blkOk_by (N := ["pile", "many", "letters", "stem", "at", "shift", "pace", "plain", "tail", "some", "k", "name"]) (sc := defScope s__law_tags) (by decide +kernel)) (fun _ _ _ _ _ => pg_tup (by rfl) (pgs_cons (pg_name (i := 10) nd rfl (Or.inl rfl)) (pgs_cons (pg_name (i := 11) nd rfl (Or.inl rfl)) (pgs_nil)))) (fun _ _ _ _ _ => pts_nil) (fun _ _ _ _ _ => (pe_op op_add_str (pv 11) (pe_op QO.op_mul_str (pv 8) (pe_op op_mod (pv 10) pe_int))))))))))))))), ?_⟩
    try dsimp only [Cx.nox, Cx.wish, cxOf]
    refine ⟨⟨_, rfl⟩, _, rfl, ?_⟩
    refine ⟨p, 8, rfl, by decide, by decide, hp, fun r H1 hr1 x1 p1 => ?_⟩
    refine ⟨_, rfl, by omega, by omega, fun D hD => ?_⟩
    have hDp : D ≠ p := fun z => by
      subst z
      obtain ⟨_, _, _, h⟩ := p1
      rw [h] at hD
      cases hD
    refine lc_it (walk_range (lo := 0) (n := r)) (fun i H' => Exc [p] H1 H' ∧ PileAt H' p ∧ ∃ ys : List Nat, ys.length = i ∧ H' D = some (.lst (ys.map fun y => V.str ⟨#[97 + y]⟩)) ∧ ∀ y ∈ ys, y < 26)
      ⟨Exc.refl.mut (.inr hD), p1.upd hDp.symm, [], rfl, upd_same, fun _ h => nomatch h⟩ (fun _ _ _ _ => True.intro) ?_ ?_
    · rintro i x H2 H3 hi ⟨x2, p2, ys, hl, hDl, hy⟩ ⟨rfl, rfl⟩
      refine ⟨rfl, _, rfl, _, rfl, ?_⟩
      refine ⟨p, 26, rfl, by decide, by decide, p2, fun r2 H4 hr2 x4 p4 => ?_⟩
      refine ⟨abc, _, _, rfl, rfl, by omega, by omega, by rw [abc_len]; omega, abc_item (by omega) (by omega), ?_⟩
      have hD4 := x4 D _ (by simpa using hDp) hDl
      refine ⟨_, hD4, by rw [List.length_map]; exact sz_lt (by omega), (x2.trans x4).mut (.inr hD), p4.upd hDp.symm, ys ++ [r2], by rw [List.length_append, hl]; rfl, ?_, ?_⟩
      · rw [upd_same, List.map_append]
        rfl
      · intro y hy'
        rcases List.mem_append.mp hy' with h | h
        · exact hy y h
        · rw [List.mem_singleton.mp h]
          exact hr2
    · rintro H2 ⟨x2, p2, ys, hl, hDl, hy⟩
      have hys : ys.map (fun y => V.str ⟨#[97 + y]⟩) = (ys.map fun y => (⟨#[97 + y]⟩ : Str)).map V.str := by rw [List.map_map]; rfl
      rw [hys] at hDl
      refine ⟨_, D, ys.map fun y => (⟨#[97 + y]⟩ : Str), rfl, rfl, .inl (SqL.of hDl), ?_, ?_⟩
      · rw [sum_ones, List.length_map]
        show ys.length + ys.length * 0 ≤ 16777216
        omega
      have hw : tl (Txt.join (Str.ofString "") (ys.map fun y => (⟨#[97 + y]⟩ : Str))) = ys.map (97 + ·) := by
        rw [show Str.ofString "" = Str.empty from rfl, tl_join0, List.map_map]
        clear hDl hys hl hy
        induction ys with
        | nil => rfl
        | cons y ys ih =>
          rw [List.map_cons, List.flatten_cons, ih]
          rfl
      generalize Txt.join (Str.ofString "") (ys.map fun y => (⟨#[97 + y]⟩ : Str)) = w at hw ⊢
      have hwl : w.length = r := by
        rw [len_tl w, show (tl w).length = (ys.map (97 + ·)).length from congrArg List.length hw, List.length_map]
        exact hl
      have hwc : ∀ c ∈ tl w, 97 ≤ c ∧ c < 123 := fun c hc => by
        rw [hw] at hc
        obtain ⟨y, hy', rfl⟩ := List.mem_map.mp hc
        have := hy y hy'
        omega
      have xA := x1.trans x2
      clear hw hys hDl hy
      show tSeq _ _ _ _ _
      have hsz : w.length ≤ sizeLine := by rw [hwl]; exact Nat.le_trans (Nat.le_of_lt hr1) (by decide)
      refine ⟨_, rfl, _, rfl, w, rfl, hsz, _, _, rfl, rfl, ?_⟩
      refine ⟨p, w.length + 1, rfl, by omega, by omega, p2, fun at_ H3 hat x3 p3 => ?_⟩
      refine ⟨_, rfl, p, 26, rfl, by decide, by decide, p3, fun sh H4 hsh x4 p4 => ?_⟩
      refine ⟨by show 12 ≤ sizeLine; decide, fun t1 ht1 => ?_⟩
      have s5 := same_new (o := .lst (paces.map fun n : Nat => V.int (n : Int))) ht1
      refine ⟨_, rfl, p, 12, rfl, by decide, by decide, p4.same s5, fun pi H5 hpi x5 p5 => ?_⟩
      have hpl : paces[pi]? = some (paces[pi]'hpi) := List.getElem?_eq_getElem hpi
      have hpm : paces[pi]'hpi ∈ paces := List.getElem_mem hpi
      have ht1p := p4.ne ht1
      refine ⟨t1, _, _, V.int ((paces[pi]'hpi : Nat) : Int), rfl, rfl, SqL.of (x5 t1 _ (by simpa using ht1p.symm) upd_same), atI_nat (by
        show (paces.map fun n : Nat => V.int (n : Int))[pi]? = _
        rw [List.getElem?_map, hpl]
        rfl), ?_⟩
      generalize paces[pi]'hpi = pc at hpm hpl ⊢
      have xB := (((xA.trans x3).trans x4).trans (.of s5)).trans x5
      clear s5 x5 hpl ht1p ht1 xA x3 x4 p3 p4 p2 x2 p1 x1 hD
      show tSeq _ _ _ (List.set _ 6 _) _
      generalize hσ : List.set _ 6 _ = σ6
      have eσ : σ6 = [some (.ref p), some (.int (m : Int)), some (.str abc), some (.str w), some (.int (at_ : Int)), some (.int (sh : Int)), some (.int (pc : Int)), none, none, none, none, none] := by
        rw [← hσ]
        rfl
      subst eσ
      clear hσ
      refine ⟨_, rfl, _, _, rfl, rfl, by show (0 : Int) < 4; decide, ?_⟩
      refine ⟨rfl, _, rfl, ?_⟩
      generalize decide (_ = V.int 3) = bb
      cases bb
      · refine iteF ?_
        refine ⟨_, rfl, w, rfl, hsz, _, _, rfl, rfl, .inr ⟨_, rfl, Str.ofString "a", rfl, ?_⟩⟩
        by_cases h7 : w.length < 7
        case' pos =>
          rw [decide_eq_true (show (w.length : Int) < 7 by omega)]
          refine .inr ⟨rfl, ?_⟩
          have hT : ∀ i, tailOf w i = if i % 2 = 0 then Str.empty else Str.ofString "a" := fun i => by
            unfold tailOf tailB
            rw [if_pos h7]
        case' neg =>
          rw [decide_eq_false (show ¬ (w.length : Int) < 7 by omega)]
          refine .inl ⟨rfl, ?_⟩
          have hT : ∀ i, tailOf w i = if i % 2 = 0 then Str.empty else Str.empty := fun i => by
            unfold tailOf tailB
            rw [if_neg h7]
        all_goals
          clear h7
          refine ⟨_, rfl, (m : Int), rfl, by omega, by omega, fun D2 hD2 => ?_⟩
          refine lc_map (walk_range (lo := 0) (n := m)) hD2 (by omega) (fun _ _ => True.intro) (fun i => .str (nameOf w at_ sh pc i)) ?_ ?_
          · rintro i x H6 H7 kk hi s6 ⟨rfl, rfl⟩ hk
            have hv : ((sh : Int) + (pc : Int) * (0 + (i : Nat))) % 26 = (((sh + pc * i) % 26 : Nat) : Int) := by
              rw [Int.zero_add, ← Int.natCast_mul, ← Int.natCast_add]
              omega
            have hc := cut_lens w at_
            refine ⟨rfl, ?_⟩
            refine ⟨_, rfl, _, rfl, _, rfl, w, rfl, hsz, ?_⟩
            refine ⟨_, rfl, _, rfl, _, rfl, _, rfl, _, _, rfl, rfl, ?_, _, _, rfl, rfl, _, _, rfl, rfl, by show (0 : Int) < 26; decide, ?_⟩
            · refine .inl ⟨?_, ?_⟩
              · show -(2 ^ 64) < (pc : Int)
                omega
              · show (pc : Int) < 2 ^ 64
                have : ∀ c ∈ paces, c < 100 := by decide
                have := this pc hpm
                omega
            have hlt : (sh + pc * i) % 26 < 26 := Nat.mod_lt _ (by decide)
            refine ⟨abc, (((sh + pc * i) % 26 : Nat) : Int), 97 + (sh + pc * i) % 26, rfl, congrArg V.int hv, by omega, by omega, by rw [abc_len]; omega, abc_item (by omega) (by omega), ?_⟩
            refine ⟨_, _, rfl, rfl, ?_, ?_⟩
            · show _ + 1 ≤ sizeLine
              exact sz_le (by omega)
            refine ⟨_, rfl, _, rfl, _, rfl, w, rfl, hsz, ?_⟩
            refine ⟨_, _, rfl, rfl, ?_, ?_⟩
            · rw [len_add]
              show _ + 1 + _ ≤ sizeLine
              exact sz_le (by omega)
            exact hk _ (Same.refl _)
          · intro H6 s6 e6
            have tg := names_tags (w := w) (at_ := at_) (sh := sh) (pc := pc) (m := m) (by omega) hwc hsh hpm m0 m1
            have hl := name_len w at_ sh pc
            generalize hnm : nameOf w at_ sh pc = nm at e6 tg hl
            have ht := tailOf_len w
            generalize htm : tailOf w = tm at hT ht tg
            have e6 : WordAt H6 D2 ((List.range m).map nm) := by
              unfold WordAt vS
              rw [List.map_map]
              exact e6
            have hn := fun i (hi : i < m) => show ((List.range m).map nm)[i]? = some (nm i) by
              rw [List.getElem?_map, List.getElem?_range hi]
              rfl
            have hnl : ((List.range m).map nm).length = m := by rw [List.length_map, List.length_range]
            have wk := walk_enumW (K := K) (a := D2) (w := (List.range m).map nm)
            rw [hnl] at wk
            generalize (List.range m).map nm = ns at e6 hn wk
            clear hwc hnm htm hpm hsh
            refine ⟨_, rfl, D2, _, rfl, SqL.of e6, fun D3 hD3 => ?_⟩
            refine lc_map wk hD3 (by omega) (fun H8 s8 => Same.word s8 e6) (fun i => .str (nm i ++ tm i)) ?_ ?_
            · rintro i x H7 H8 kk hi s7 ⟨t, y, hy, nt, rfl, rfl⟩ hk
              rw [hn i hi] at hy
              cases hy
              have s8 := Same.new (Same.refl H7) (o := .tup [.int (i : Int), .str (nm i)]) nt
              refine ⟨t, _, rfl, SqT.of upd_same, rfl, _, _, rfl, _, _, rfl, rfl, rfl, ?_⟩
              refine ⟨_, rfl, _, rfl, _, rfl, _, _, rfl, rfl, by show (0 : Int) < 2; decide, ?_⟩
              have e0 := hk _ s8
              have hl := hl i
              have ht := ht i
              by_cases h2 : i % 2 = 0
              · have e2 := (hT i).trans (if_pos h2)
                rw [e2] at e0 ht
                exact ⟨_, rfl, .inl ⟨congrArg V.int (show (i : Int) % 2 = 0 by omega), _, _, rfl, rfl, sz_le (by omega), e0⟩⟩
              · have e2 := (hT i).trans (if_neg h2)
                rw [e2] at e0 ht
                exact ⟨_, rfl, .inr ⟨congrArg V.int (show (i : Int) % 2 = 1 by omega), _, _, rfl, rfl, sz_le (by omega), e0⟩⟩
            · intro H7 s7 e7
              have s57 := s6.trans s7
              refine q ((List.range m).map fun i => nm i ++ tm i) D3 H7 tg (by rw [List.length_map, List.length_range]) (xB.trans (.of s57)) (p5.same s57) (hp.free xB p5 (s6.free hD3)) ?_
              unfold WordAt vS
              rw [List.map_map]
              exact e7
      · refine iteT ?_
        refine ⟨by show 8 ≤ sizeLine; decide, fun t2 ht2 => ?_⟩
        have s6 : Same H5 (upd H5 t2 (.lst (vS plains))) := same_new ht2
        have h6 : (upd H5 t2 (.lst (vS plains))) t2 = some (.lst (vS plains)) := upd_same
        have e6 : upd H5 t2 (.lst (vS plains)) = upd H5 t2 (.lst [V.str (Str.ofString "re"), V.str (Str.ofString "fwd"), V.str (Str.ofString "list"), V.str (Str.ofString "r"), V.str (Str.ofString "aw"), V.str (Str.ofString "ref"), V.str (Str.ofString "a"), V.str (Str.ofString "fw")]) := rfl
        generalize upd H5 t2 (.lst (vS plains)) = H6 at s6 h6 e6
        rw [← e6]
        clear e6
        refine ⟨_, rfl, _, rfl, _, _, rfl, rfl, ⟨by decide, by decide⟩, _, _, rfl, rfl, by show (0 : Int) < 3; decide, _, rfl, ?_⟩
        refine ⟨t2, _, rfl, SqL.of h6, fun t3 ht3 => ?_⟩
        rw [show (sh : Int) / 4 % 3 = ((sh / 4 % 3 : Nat) : Int) by omega, cut_drop, vS_drop]
        have s7 : Same H5 (upd H6 t3 (.lst (vS (plains.drop (sh / 4 % 3))))) := Same.new s6 ht3
        refine ⟨_, rfl, t3, t2, _, _, rfl, rfl, upd_same, Eq.trans (upd_ne (ne_of_none h6 ht3)) h6, ?_, fun t4 ht4 => ?_⟩
        · rw [vS_len, vS_len, List.length_drop]
          exact sz_le (by show 8 - _ + 8 ≤ 100000; omega)
        rw [vS_append]
        have s8 := Same.new s7 (o := .lst (vS (plains.drop (sh / 4 % 3) ++ plains))) ht4
        refine ⟨_, rfl, _, rfl, t4, _, rfl, SqL.of upd_same, fun t5 ht5 => ?_⟩
        rw [cut_take, vS_take]
        have s9 := Same.new s8 (o := .lst (vS ((plains.drop (sh / 4 % 3) ++ plains).take m))) ht5
        have n5 := s8.free ht5
        exact q _ t5 _ (plains_tags (by omega) m0 m1) (plains_len _ (by omega) _ (by omega)) (xB.trans (.of s9)) (p5.same s9) (hp.free xB p5 n5) upd_same
end
end Law
end

section
set_option Elab.async false
set_option linter.all false
set_option maxRecDepth 100000
set_option maxHeartbeats 4000000
namespace Law
open PySem PySem.Spec PyProof.Rows L2 LamX QB QM
section
variable {P : Program} {w : World} {K : PySem.W.Frag} {mg : Str → Option Value} {base : Heap}
theorem newLExc {H0 H H' : Hp} {p : Addr} {L : List Tri} {F : Form} (n : NewL H0 H L F) (e : Exc [p] H H') (hp : PileAt H0 p) : NewL H0 H' L F := by
  obtain ⟨d, c, k, hp⟩ := hp
  refine ⟨paired_mem n.at_ fun x s hx q => ?_, n.new, n.nd⟩
  obtain ⟨f1, f2, f3⟩ := n.new x hx
  have g1 := f1.ne hp
  have g2 := f2.ne hp
  have g3 := f3.ne hp
  exact ⟨e _ _ (by simpa using g1.symm) q.1, e _ _ (by simpa using g2.symm) q.2.1, e _ _ (by simpa using g3.symm) q.2.2⟩
theorem newLSnoc {H0 H : Hp} {t a b : Addr} {L : List Tri} {F : Form} {s : Std} (n : NewL H0 H L F) (h1 : H t = some (.tup [.ref a, .ref b])) (h2 : WordAt H a s.1) (h3 : WaysAt H b s.2) (f1 : Fresh H0 t) (f2 : Fresh H0 a) (f3 : Fresh H0 b) (o1 : a ∉ inner L) (o2 : b ∉ inner L) (hab : a ≠ b) :
    NewL H0 H (L ++ [(t, a, b)]) (F ++ [s]) := by
  refine ⟨Paired.snoc n.at_ ⟨h1, h2, h3⟩, fun x hx => ?_, ?_⟩
  · rcases List.mem_append.mp hx with hx | hx
    · exact n.new x hx
    · rw [List.mem_singleton.mp hx]
      exact ⟨f1, f2, f3⟩
  · rw [inner_append, List.nodup_append]
    refine ⟨n.nd, ?_, fun x hx y hy => ?_⟩
    · show [a, b].Nodup
      simp [hab]
    · have hy : y = a ∨ y = b := by simpa [inner] using hy
      rcases hy with rfl | rfl
      · exact fun z => o1 (z ▸ hx)
      · exact fun z => o2 (z ▸ hx)
theorem vWs_flat {ws : Ways} : (vWs ws).all flatV = true := by
  rw [List.all_eq_true]
  intro x hx
  obtain ⟨y, _, rfl⟩ := List.mem_map.mp hx
  cases y <;> rfl
theorem mem_inner_set {q t a : Addr} : ∀ {L : List Tri} {k : Nat} {y : Tri}, L[k]? = some y → q ∈ inner (L.set k (t, a, y.2.2)) → q ∈ inner L ∨ q = a
  | [], k, _, e, _ => by simp at e
  | x :: L, 0, y, e, h => by
    simp at e
    subst e
    have h : q ∈ a :: x.2.2 :: inner L := h
    show q ∈ x.2.1 :: x.2.2 :: inner L ∨ q = a
    rcases List.mem_cons.mp h with h | h
    · exact .inr h
    · exact .inl (List.mem_cons_of_mem _ h)
  | x :: L, k + 1, y, e, h => by
    rw [List.getElem?_cons_succ] at e
    rw [List.set_cons_succ] at h
    have h : q ∈ x.2.1 :: x.2.2 :: inner (L.set k (t, a, y.2.2)) := h
    show q ∈ x.2.1 :: x.2.2 :: inner L ∨ q = a
    rcases List.mem_cons.mp h with h | h
    · exact .inl (h ▸ List.mem_cons_self)
    · rcases List.mem_cons.mp h with h | h
      · exact .inl (h ▸ List.mem_cons_of_mem _ List.mem_cons_self)
      · rcases mem_inner_set e h with h | h
        · exact .inl (List.mem_cons_of_mem _ (List.mem_cons_of_mem _ h))
        · exact .inr h
theorem newLSet {H0 H : Hp} {t a : Addr} {w' : Word} (h2 : WordAt H a w') (f1 : Fresh H0 t) (f2 : Fresh H0 a) : ∀ {L : List Tri} {F : Form} {k : Nat} {y : Tri} {s : Std}, NewL H0 H L F → L[k]? = some y → F[k]? = some s →
    H t = some (.tup [.ref a, .ref y.2.2]) → a ∉ inner L → NewL H0 H (L.set k (t, a, y.2.2)) (F.set k (w', s.2))
  | [], _, k, _, _, _, e, _, _, _ => by simp at e
  | y :: L, [], k, _, _, _, _, e, _, _ => by simp at e
  | y :: L, f :: F, 0, x, s, n, e1, e2, h1, o => by
    simp at e1 e2
    subst e1 e2
    obtain ⟨p, nw, nd⟩ := n
    cases p with
    | cons h r =>
      have nd' : (y.2.1 :: y.2.2 :: inner L).Nodup := nd
      rw [List.nodup_cons] at nd'
      have o' : a ∉ y.2.1 :: y.2.2 :: inner L := o
      rw [List.set_cons_zero]
      refine ⟨.cons ⟨h1, h2, h.2.2⟩ r, fun z hz => ?_, ?_⟩
      · rcases List.mem_cons.mp hz with rfl | hz
        · exact ⟨f1, f2, (nw y List.mem_cons_self).2.2⟩
        · exact nw z (List.mem_cons_of_mem _ hz)
      · show (a :: y.2.2 :: inner L).Nodup
        exact List.nodup_cons.mpr ⟨fun z => o' (List.mem_cons_of_mem _ z), nd'.2⟩
  | y :: L, f :: F, k + 1, x, s, n, e1, e2, h1, o => by
    rw [List.getElem?_cons_succ] at e1 e2
    obtain ⟨p, nw, nd⟩ := n
    cases p with
    | cons h r =>
      have nd' : (y.2.1 :: y.2.2 :: inner L).Nodup := nd
      rw [List.nodup_cons, List.nodup_cons] at nd'
      obtain ⟨d1, d2, d3⟩ := nd'
      have o' : a ∉ y.2.1 :: y.2.2 :: inner L := o
      have n' : NewL H0 H L F := ⟨r, fun z hz => nw z (List.mem_cons_of_mem _ hz), d3⟩
      have rest := newLSet h2 f1 f2 n' e1 e2 h1 fun z => o' (List.mem_cons_of_mem _ (List.mem_cons_of_mem _ z))
      rw [List.set_cons_succ]
      refine ⟨.cons h rest.at_, fun z hz => ?_, ?_⟩
      · rcases List.mem_cons.mp hz with rfl | hz
        · exact nw z List.mem_cons_self
        · exact rest.new z hz
      · show (y.2.1 :: y.2.2 :: inner (L.set k (t, a, x.2.2))).Nodup
        rw [List.nodup_cons, List.nodup_cons]
        refine ⟨fun z => ?_, fun z => ?_, rest.nd⟩
        · rcases List.mem_cons.mp z with z | z
          · exact d1 (z ▸ List.mem_cons_self)
          · rcases mem_inner_set e1 z with z | z
            · exact d1 (List.mem_cons_of_mem _ z)
            · exact o' (z ▸ List.mem_cons_self)
        · rcases mem_inner_set e1 z with z | z
          · exact d2 z
          · exact o' (z ▸ List.mem_cons_of_mem _ List.mem_cons_self)
theorem eqV_way (x : Option Nat) (k : Nat) : eqV (vW x) (.int (k : Int)) = decide (x = some k) := by
  cases x with
  | none => simp [vW, eqV]
  | some m =>
    by_cases h : m = k
    · subst h
      simp [vW, eqV]
    · have : ¬ (m : Int) = (k : Int) := by omega
      simp [vW, eqV, h, this]
theorem inV_ways (k : Nat) (ws : Ways) : inV (.int (k : Int)) (vWs ws) = decide (some k ∈ ws) := by
  unfold inV vWs
  induction ws with
  | nil => rfl
  | cons y w ih =>
    rw [List.map_cons, List.any_cons, ih, eqV_way]
    by_cases h : y = some k
    · subst h
      simp
    · simp [h, Ne.symm h]
theorem idxOf_minW {tags : Ways} {t : Option Nat} : ∀ {m : Nat}, m < tags.idxOf t → ∀ {x}, tags[m]? = some x → x ≠ t := by
  induction tags with
  | nil => intro m h x e; simp at e
  | cons y tags ih =>
    intro m h x e z
    subst z
    rw [List.idxOf_cons] at h
    by_cases hy : y == x
    · rw [hy] at h
      simp at h
    · rw [Bool.not_eq_true] at hy
      rw [hy] at h
      simp at h
      cases m with
      | zero =>
        simp at e
        subst e
        simp at hy
      | succ m => exact ih (m := m) (by omega) (by simpa using e) rfl
theorem index_ways {K : PySem.W.Frag} {H : Hp} {a : Addr} {ws : Ways} {k : Nat} {Q : VK} (h : WaysAt H a ws) (hk : some k ∈ ws) (q : ∀ j : Nat, j < ws.length → Q (.int (j : Int)) H) : rIndex K (.ref a) [.int (k : Int)] H Q := by
  have hlt : ws.idxOf (some k) < ws.length := List.idxOf_lt_length_of_mem hk
  refine ⟨a, vWs ws, .int (k : Int), ws.idxOf (some k), vW (some k), rfl, rfl, SqL.of h, rfl, vWs_flat, vWs_get ?_, by rw [eqV_way]; simp, fun m z hm hz => ?_, q _ hlt⟩
  · rw [List.getElem?_eq_getElem hlt, List.getElem_idxOf]
  · have hm' : m < ws.length := Nat.lt_trans hm hlt
    rw [vWs_get (show ws[m]? = some ws[m] by simp [hm'])] at hz
    cases hz
    rw [eqV_way]
    exact decide_eq_false (idxOf_minW hm (by simp [hm']))
theorem wordExc {H H' : Hp} {p a : Addr} {t : Word} (e : Exc [p] H H') (n : a ≠ p) (h : WordAt H a t) : WordAt H' a t := e _ _ (by simpa using n) h
theorem PileAt.word {H : Hp} {p a : Addr} {t : Word} (h : PileAt H p) (ha : WordAt H a t) : a ≠ p := fun z => by
  subst z
  obtain ⟨_, _, _, h⟩ := h
  unfold WordAt at ha
  rw [h] at ha
  injection ha with ha
  injection ha with ha
  cases t with
  | nil => cases ha
  | cons => cases ha
theorem flat_rep : ∀ n : Nat, (List.replicate n [V.non]).flatten = List.replicate n V.non
  | 0 => rfl
  | n + 1 => by
    rw [List.replicate_succ, List.flatten_cons, flat_rep n, List.replicate_succ]
    rfl
theorem pick_ways {n r : Nat} (h : r < 2 * n) : ((List.range n).map (fun i : Nat => V.int (0 + (i : Int))) ++ (List.replicate (n : Int).toNat [V.non]).flatten)[r]? = some (vW (if r < n then some r else none)) := by
  rw [show (n : Int).toNat = n from rfl, flat_rep]
  by_cases hr : r < n
  · rw [if_pos hr, List.getElem?_append_left (by rw [List.length_map, List.length_range]; exact hr), List.getElem?_map, List.getElem?_range hr]
    show some (V.int (0 + (r : Int))) = some (V.int (r : Int))
    rw [Int.zero_add]
  · rw [if_neg hr, List.getElem?_append_right (by rw [List.length_map, List.length_range]; omega), List.length_map, List.length_range, List.getElem?_replicate, if_pos (by omega)]
    rfl
theorem vWs_snoc (ws : Ways) (x : Option Nat) : vWs ws ++ [vW x] = vWs (ws ++ [x]) := by
  unfold vWs
  rw [List.map_append]
  rfl
def spEater : Sp := fun vs H Q _ => ∃ (p a : Addr) (tags : Word) (most long : Nat), vs = [.ref p, .ref a, .int (most : Int), .int (long : Int)] ∧ 1 ≤ most ∧ most ≤ 30 ∧ long ≤ 8 ∧ PileAt H p ∧ WordAt H a tags ∧ TagsOk tags ∧
  ∀ (F : Form) (L : List Tri) (q : Addr) (H' : Hp), FormOk tags F → F.length ≤ most → (∀ (i : Nat) (s : Std), F[i]? = some s → List.length s.1 ≤ long + i) → Exc [p] H H' → PileAt H' p → NewF H H' q L F → Q (.ref q) H'
theorem ok__law_eater (X : TX K mg) : FnOk P w K mg base CX0 4 X.d__law_eater.a X.d__law_eater.fd ["pile", "tags", "most", "long"] spEater := by
  have nd := sc__law_eater.nd
  refine X.d__law_eater.F.ok sc__law_eater (fun vs H Q E h => ?_) (fun cdv A outer s H vs Q E hr h => ?_)
  · obtain ⟨p, a, tags, most, long, rfl, _⟩ := h
    rfl
  · obtain ⟨p, a, tags, most, long, rfl, m0, m1, l1, hp, ha, to, q⟩ := h
    refine ⟨_, (pss_cons (ps_set (i := 4) nd rfl (Or.inr rfl) (pe_op op_add pe_int (pe_call (ok__law_take X) (hr.mono (by decide)) rfl X.d__law_take.mg X.d__law_take.F.kp X.d__law_take.b .nil pass0 (pa_cons (pv 0) (pa_cons (pv 2) pa_nil))))) (pss_cons (ps_set (i := 5) nd rfl (Or.inl rfl) (pe_lst pa_nil)) (pss_cons (ps_for PassesOwn.never rfl (pi_range1 (by rfl) X.n_range (pa_cons (pv 4) pa_nil)) (pg_name (i := 6) nd rfl (Or.inl rfl)) (pss_cons (ps_setLc (i := 7) (own := [("turn", 9)]) (g := gName 9) (tt := tYes) rfl nd rfl rfl (sw_true rfl rfl rfl (by decide +kernel)) (pi_range1 (by rfl) X.n_range (pa_cons (pe_call (ok__law_take X) (hr.mono (by decide)) rfl X.d__law_take.mg X.d__law_take.F.kp X.d__law_take.b .nil pass0 (pa_cons (pv 0) (pa_cons (pe_op op_add (pv 3) pe_int) pa_nil))) pa_nil)) (blkOk_by (N := ["pile", "tags", "most", "long", "many", "found", "k", "word", "ways", "turn", "tag", "place"]) (sc := defScope s__law_eater) (by decide +kernel)) (fun _ _ _ _ _ => pg_name (i := 9) nd rfl (Or.inl rfl)) (fun _ _ _ _ _ => pts_nil) (fun _ _ _ _ _ => (pe_ix (QB.ix_listK K) (pv 1) (pe_call (ok__law_take X) (hr.mono (by decide)) rfl X.d__law_take.mg X.d__law_take.F.kp X.d__law_take.b .nil pass0 (pa_cons (pv 0) (pa_cons (pe_callB (QB.call_lenK K) (by rfl) X.n_len PySem.boot_len (pa_cons (pv 1) pa_nil)) pa_nil))) (fun _ _ => rfl)))) (pss_cons (ps_setLc (i := 8) (own := [("tag", 10)]) (g := gName 10) (tt := tYes) rfl nd rfl rfl (sw_true rfl rfl rfl (by decide +kernel)) (QB.pi_listK K (pv 1)) (blkOk_by (N := ["pile", "tags", "most", "long", "many", "found", "k", "word", "ways", "turn", "tag", "place"]) (sc := defScope s__law_eater) (by decide +kernel)) (fun _ _ _ _ _ => pg_name (i := 10) nd rfl (Or.inl rfl)) (fun _ _ _ _ _ => pts_nil) (fun _ _ _ _ _ => (pe_ix (QB.ix_listK K) (pe_op op_cat (pe_lc (own := [("place", 11)]) (g := gName 11) (tt := tYes) rfl nd (pi_range1 (by rfl) X.n_range (pa_cons (pv 4) pa_nil)) (blkOk_by (N := ["pile", "tags", "most", "long", "many", "found", "k", "word", "ways", "turn", "tag", "place"]) (by rfl)) (fun _ _ _ _ _ => pg_name (i := 11) nd rfl (Or.inl rfl)) (fun _ _ _ _ _ => pts_nil) (fun _ _ _ _ _ => (pv 11))) (pe_op op_rep (pe_lst (pa_cons pe_non pa_nil)) (pv 4))) (pe_call (ok__law_take X) (hr.mono (by decide)) rfl X.d__law_take.mg X.d__law_take.F.kp X.d__law_take.b .nil pass0 (pa_cons (pv 0) (pa_cons (pe_op op_mul pe_int (pv 4)) pa_nil))) (fun _ _ => rfl)))) (pss_one (ps_expr (QB.pe_bmK K PySem.F.plainAttrs_list PySem.F.slot_list_append PySem.F.type_list_append mt_append (pv 5) (pa_cons (pe_tup (pa_cons (pv 7) (pa_cons (pv 8) pa_nil))) pa_nil))))))) (pss_cons (ps_for PassesOwn.never rfl (pi_range2 (by rfl) X.n_range (pa_cons pe_int (pa_cons (pv 4) pa_nil))) (pg_name (i := 6) nd rfl (Or.inl rfl)) (pss_cons (ps_asg (pe_ix (QB.ix_listK K) (pv 5) (pe_call (ok__law_take X) (hr.mono (by decide)) rfl X.d__law_take.mg X.d__law_take.F.kp X.d__law_take.b .nil pass0 (pa_cons (pv 0) (pa_cons (pv 6) pa_nil))) (fun _ _ => rfl)) (pg_tup (by rfl) (pgs_cons (pg_name (i := 7) nd rfl (Or.inl rfl)) (pgs_cons (pg_name (i := 8) nd rfl (Or.inl rfl)) (pgs_nil))))) (pss_one (ps_if (PW.pt (pw_and (pt_cmpR (QB.op_inK K) (pv 6) (pv 8) rfl) (pw_and1 (pt_cmpR op_eq (pe_call (ok__law_take X) (hr.mono (by decide)) rfl X.d__law_take.mg X.d__law_take.F.kp X.d__law_take.b .nil pass0 (pa_cons (pv 0) (pa_cons pe_int pa_nil))) pe_int (nomark _))))) (pss_one (ps_asg (pe_tup (pa_cons (pe_op op_cat (pe_slice (QB.sl_listK K) (pv 7) po_none (po_some pe_int)) (pe_lst (pa_cons (pe_ix (QB.ix_listK K) (pv 1) (QB.pe_bmK K PySem.F.plainAttrs_list PySem.F.slot_list_index PySem.F.type_list_index (QB.mt_indexK K) (pv 8) (pa_cons (pv 6) pa_nil)) (fun _ _ => rfl)) pa_nil))) (pa_cons (pe_ix (QB.ix_tupK K) (pe_ix (QB.ix_listK K) (pv 5) (pv 6) (fun _ _ => rfl)) pe_int (fun _ _ => rfl)) pa_nil))) (pg_sub (pv 5) (pv 6) set_list))) pss_nil)))) (pss_one (ps_ret (pv 5))))))), ?_⟩
    try dsimp only [Cx.nox, Cx.wish, cxOf]
    refine ⟨_, rfl, _, rfl, ?_⟩
    refine ⟨p, most, rfl, by omega, by omega, hp, fun r H1 hr1 x1 p1 => ?_⟩
    show rI0 _ _ _ _ _
    refine ⟨_, _, rfl, rfl, ?_⟩
    refine ⟨by show 0 ≤ sizeLine; decide, fun D hD => ?_⟩
    have hDp := p1.ne hD
    have ap := hp.word ha
    show tSeq _ _ _ (List.set _ 5 _) _
    generalize hσ : List.set _ 5 _ = σ6
    have eσ : σ6 = [some (.ref p), some (.ref a), some (.int (most : Int)), some (.int (long : Int)), some (.int ((1 + r : Nat) : Int)), some (.ref D), none, none, none, none, none, none] := by
      rw [← hσ]
      rfl
    subst eσ
    clear hσ
    have hn : 1 + r ≤ most := by omega
    have hn1 : 1 ≤ 1 + r := by omega
    generalize 1 + r = n at hn hn1 ⊢
    clear hr1
    have hD0 : H D = none := hp.free x1 p1 hD
    refine ⟨_, rfl, (n : Int), rfl, by omega, by omega, ?_⟩
    refine for_it (walk_range (lo := 0) (n := n)) (fun i σ H' => ∃ (v6 v7 v8 : Option V) (F : Form) (L : List Tri), σ = [some (.ref p), some (.ref a), some (.int (most : Int)), some (.int (long : Int)), some (.int (n : Int)), some (.ref D), v6, v7, v8, none, none, none] ∧
        Exc [p] H H' ∧ PileAt H' p ∧ H' D = some (.lst (L.map fun x => V.ref x.1)) ∧ NewL H H' L F ∧ D ∉ inner L ∧ F.length = i ∧ (∀ s ∈ F, StdOk tags n s) ∧ (∀ (i : Nat) (s : Std), F[i]? = some s → List.length s.1 ≤ long + i))
      ⟨none, none, none, [], [], rfl, x1.mut (.inr hD0), p1.upd hDp, upd_same, NewL.nil, by simp [inner], rfl, (fun _ h => nomatch h), fun _ _ h => by simp at h⟩ (fun _ _ _ _ _ => True.intro) ?_ ?_
    · rintro i x σ H2 H3 hi ⟨v6, v7, v8, F, L, rfl, x2, p2, hD2, nL, oD, hF, hok, hlo⟩ ⟨rfl, rfl⟩
      have hL := nL.len
      -- the word
      refine ⟨_, rfl, _, rfl, _, _, rfl, rfl, ?_⟩
      refine ⟨p, long + 1, rfl, by omega, by omega, p2, fun r2 H4 hr2 x4 p4 => ⟨_, rfl, by omega, by omega, fun W hW => ?_⟩⟩
      have hWp := p4.ne hW
      have ha4 := wordExc (x2.trans x4) ap ha
      refine lc_it (walk_range (lo := 0) (n := r2)) (fun i H' => Exc [p] H4 H' ∧ PileAt H' p ∧ ∃ ys : Word, ys.length = i ∧ WordAt H' W ys ∧ ∀ t ∈ ys, t ∈ tags)
        ⟨Exc.refl.mut (.inr hW), p4.upd hWp, [], rfl, upd_same, fun _ h => nomatch h⟩ (fun _ _ _ _ => True.intro) ?_ ?_
      · rintro j x H5 H6 hj ⟨x5, p5, ys, hl, hWl, hy⟩ ⟨rfl, rfl⟩
        refine ⟨rfl, _, rfl, _, rfl, ?_⟩
        have ha5 := wordExc x5 ap ha4
        refine ⟨_, rfl, _, _, rfl, .inl (SqL.of ha5), ?_⟩
        have h1 := to.pos
        have h2 := to.len
        refine ⟨p, tags.length, by rw [vS_len]; rfl, by omega, by omega, p5, fun r3 H7 hr3 x7 p7 => ?_⟩
        have e3 : tags[r3]? = some (tags[r3]'hr3) := List.getElem?_eq_getElem hr3
        refine ⟨a, _, _, _, rfl, rfl, SqL.of (wordExc x7 ap ha5), atI_nat (vS_get e3), ?_⟩
        have hW7 := wordExc x7 hWp.symm hWl
        refine ⟨_, hW7, by rw [vS_len]; exact sz_lt (by omega), (x5.trans x7).mut (.inr hW), p7.upd hWp, ys ++ [tags[r3]'hr3], by rw [List.length_append, hl]; rfl, ?_, ?_⟩
        · unfold WordAt
          rw [upd_same, ← vS_append]
          rfl
        · intro t ht
          rcases List.mem_append.mp ht with h | h
          · exact hy t h
          · rw [List.mem_singleton.mp h]
            exact List.getElem_mem hr3
      rintro H5 ⟨x5, p5, wd, hwl, hWd, hwt⟩
      have xA := (x2.trans x4).trans x5
      have nA := newLExc (newLExc nL x4 hp) x5 hp
      have hDA : H5 D = some (.lst (L.map fun x => V.ref x.1)) := x5 _ _ (by simpa using hDp.symm) (x4 _ _ (by simpa using hDp.symm) hD2)
      have haA := wordExc xA ap ha
      have hW0 : H3 W = none := p2.free x4 p4 hW
      have hWD : W ≠ D := fun z => by
        subst z
        rw [hD2] at hW0
        cases hW0
      have hWin : ∀ y, y ∈ inner L → y ≠ W := fun y hy z => by
        subst z
        obtain ⟨_, h⟩ := nL.there hy
        rw [h] at hW0
        cases hW0
      have hWn : H W = none := hp.free x2 p2 hW0
      clear x4 x5 hD2 nL ha4 hW hW0 p4
      -- the ways
      refine ⟨_, rfl, _, rfl, ⟨_, SqL.of haA⟩, fun V0 hV => ?_⟩
      have hVp := p5.ne hV
      refine lc_it (walk_listW (K := K) (a := a) (w := tags)) (fun i H' => Exc [p] H5 H' ∧ PileAt H' p ∧ ∃ ws : Ways, ws.length = i ∧ WaysAt H' V0 ws ∧ ∀ m, some m ∈ ws → m < n)
        ⟨Exc.refl.mut (.inr hV), p5.upd hVp, [], rfl, upd_same, fun _ h => nomatch h⟩ (fun i H' _ h => wordExc h.1 ap haA) ?_ ?_
      · rintro j x H6 H7 hj ⟨x6, p6, ws, hl, hVl, hw⟩ ⟨y, hy, rfl, rfl⟩
        refine ⟨rfl, _, rfl, (n : Int), rfl, by omega, by omega, fun D4 hD4 => ?_⟩
        refine lc_map (walk_range (lo := 0) (n := n)) hD4 (by omega) (fun _ _ => True.intro) (fun i : Nat => V.int (0 + (i : Int))) ?_ ?_
        · rintro i' x' H8 H9 kk hi' s8 ⟨rfl, rfl⟩ hk
          exact ⟨rfl, _, rfl, hk _ (Same.refl _)⟩
        intro H8 s8 e8
        refine ⟨by show 1 ≤ sizeLine; decide, fun t ht => ?_⟩
        have s9 := Same.new s8 (o := .lst [V.non]) ht
        refine ⟨_, rfl, t, (n : Int), _, rfl, rfl, upd_same, by omega, by omega, ?_, fun t2 ht2 => ?_⟩
        · show 1 * (n : Int).toNat ≤ sizeLine
          exact sz_le (by omega)
        have e9 := (same_new (o := .lst [V.non]) ht) _ _ e8
        generalize upd H8 t (.lst [V.non]) = H9 at s9 ht2 e9 ⊢
        have s10 := Same.new s9 (o := .lst (List.replicate (n : Int).toNat [V.non]).flatten) ht2
        refine ⟨D4, t2, _, _, rfl, rfl, (same_new ht2) _ _ e9, upd_same, ?_, fun t3 ht3 => ?_⟩
        · rw [List.length_map, List.length_range, show (n : Int).toNat = n from rfl, flat_rep, List.length_replicate]
          exact sz_le (by omega)
        generalize upd H9 t2 _ = H10 at s10 ht3 ⊢
        have s11 := fun o => Same.new s10 (o := o) ht3
        refine ⟨_, rfl, _, rfl, _, _, rfl, rfl, .inl ⟨by decide, by decide⟩, ?_⟩
        refine ⟨p, 2 * n, congrArg (fun t : Int => [V.ref p, V.int t]) (by omega), by omega, by omega, p6.same (s11 _), fun r4 H11 hr4 x11 p11 => ?_⟩
        have ht3p := (p6.same s10).ne ht3
        refine ⟨t3, _, _, _, rfl, rfl, SqL.of (x11 _ _ (by simpa using ht3p.symm) upd_same), atI_nat (pick_ways hr4), ?_⟩
        have x12 := (Exc.of (M := [p]) (s11 _)).trans x11
        have hV12 : WaysAt H11 V0 ws := x12 _ _ (by simpa using hVp.symm) hVl
        refine ⟨_, hV12, by rw [vWs_len]; exact sz_lt (by have := to.len; omega), (x6.trans x12).mut (.inr hV), p11.upd hVp, ws ++ [if r4 < n then some r4 else none], by rw [List.length_append, hl]; rfl, ?_, ?_⟩
        · unfold WaysAt
          rw [upd_same, vWs_snoc]
        · intro m' hm
          rcases List.mem_append.mp hm with h | h
          · exact hw m' h
          · rw [List.mem_singleton] at h
            by_cases hr4n : r4 < n
            · rw [if_pos hr4n] at h
              cases h
              exact hr4n
            · rw [if_neg hr4n] at h
              cases h
      rintro H6 ⟨x6, p6, ws, hwsl, hVw, hws⟩
      have hV0 : H V0 = none := hp.free xA p5 hV
      have hVD : V0 ≠ D := fun z => by
        subst z
        rw [hDA] at hV
        cases hV
      have hVin : V0 ∉ inner L := fun hy => by
        obtain ⟨_, h⟩ := nA.there hy
        rw [h] at hV
        cases hV
      have hWV : W ≠ V0 := fun z => by
        subst z
        unfold WordAt at hWd
        rw [hWd] at hV
        cases hV
      have hD6 : H6 D = some (.lst (L.map fun x => V.ref x.1)) := x6 _ _ (by simpa using hDp.symm) hDA
      refine ⟨_, rfl, .inl ⟨rfl, _, SqL.of hD6⟩, _, rfl, _, rfl, by show 2 ≤ sizeLine; decide, fun t ht => ?_⟩
      have s7 := same_new (o := .tup [.ref W, .ref V0]) ht
      have tD : D ≠ t := ne_of_none hD6 ht
      refine ⟨D, _, _, rfl, rfl, s7 _ _ hD6, ?_, ?_⟩
      · rw [List.length_map, hL, hF]
        exact sz_lt (by omega)
      have x7 := (xA.trans x6).trans (.of (M := [p]) s7)
      have p7 := p6.same s7
      have n7 := newLSnoc (s := (wd, ws)) (newLExc nA (x6.trans (.of s7)) hp) (t := t) upd_same (Same.word s7 (wordExc x6 hWp.symm hWd)) (Same.ways s7 hVw) (.of (hp.free (xA.trans x6) p6 ht)) (.of hWn) (.of hV0) (fun h => hWin _ h rfl) hVin hWV
      refine ⟨_, _, _, F ++ [(wd, ws)], L ++ [(t, W, V0)], rfl, x7.mut (.inr hD0), p7.upd hDp, ?_, n7.upd (s7 _ _ hD6) (not_inner_snoc oD hWD.symm hVD.symm), not_inner_snoc oD hWD.symm hVD.symm, by rw [List.length_append, hF]; rfl, fun s hs => ?_, fun i' s' h => ?_⟩
      · rw [upd_same, List.map_append]
        rfl
      · rcases List.mem_append.mp hs with h | h
        · exact hok s h
        · rw [List.mem_singleton.mp h]
          exact ⟨by show wd.length ≤ 8; omega, hwt, hwsl, hws⟩
      · rcases Nat.lt_or_ge i' F.length with q | q
        · rw [List.getElem?_append_left q] at h
          exact hlo i' s' h
        · rw [List.getElem?_append_right q] at h
          cases hz : i' - F.length with
          | zero =>
            rw [hz] at h
            have : (wd, ws) = s' := Option.some.inj h
            rw [← this]
            show wd.length ≤ long + i'
            omega
          | succ m =>
            rw [hz] at h
            simp at h
    · rintro σ H2 ⟨v6, v7, v8, F, L, rfl, x2, p2, hD2, nL, oD, hF, hok, hlo⟩
      refine ⟨_, rfl, (1 : Int), (n : Int), rfl, ⟨by omega, by omega, by omega, by omega⟩, ?_⟩
      have hnn : ((n : Int) - 1).toNat = n - 1 := by omega
      rw [hnn]
      refine for_it (walk_range (lo := 1) (n := n - 1)) (fun i σ H' => ∃ (v6 v7 v8 : Option V) (F : Form) (L : List Tri), σ = [some (.ref p), some (.ref a), some (.int (most : Int)), some (.int (long : Int)), some (.int (n : Int)), some (.ref D), v6, v7, v8, none, none, none] ∧
          Exc [p] H H' ∧ PileAt H' p ∧ H' D = some (.lst (L.map fun x => V.ref x.1)) ∧ NewL H H' L F ∧ D ∉ inner L ∧ F.length = n ∧ (∀ s ∈ F, StdOk tags n s) ∧ (∀ (i : Nat) (s : Std), F[i]? = some s → List.length s.1 ≤ long + i))
        ⟨v6, v7, v8, F, L, rfl, x2, p2, hD2, nL, oD, hF, hok, hlo⟩ (fun _ _ _ _ _ => True.intro) ?_ ?_
      · clear nL hok oD hF hD2 p2 x2
        rintro i x σ H2 H3 hi ⟨v6, v7, v8, F, L, rfl, x2, p2, hD2, nL, oD, hF, hok, hlo⟩ ⟨rfl, rfl⟩
        have hL := nL.len
        refine ⟨_, rfl, _, rfl, _, rfl, ?_⟩
        refine ⟨p, 1 + i, rfl, by omega, by omega, p2, fun r2 H4 hr2 x4 p4 => ?_⟩
        have n4 := newLExc nL x4 hp
        have hD4 : H4 D = some (.lst (L.map fun x => V.ref x.1)) := x4 _ _ (by simpa using hDp.symm) hD2
        have es := stdOf_get (F := F) (k := r2) (by omega)
        obtain ⟨x, hx, g1, g2, g3⟩ := n4.get es
        have hsok := hok _ (mem_of es)
        generalize stdOf F r2 = s at g2 g3 hsok es
        refine ⟨D, _, _, _, rfl, rfl, SqL.of hD4, atI_nat (by rw [List.getElem?_map, hx]; rfl), ?_⟩
        refine ⟨x.1, _, rfl, SqT.of g1, rfl, _, _, rfl, _, _, rfl, rfl, ?_⟩
        refine ⟨_, rfl, _, rfl, x.2.2, _, rfl, .inl (SqL.of g3), rfl, vWs_flat, _, rfl, ?_⟩
        rw [if_neg Bool.false_ne_true]
        have x24 := x2.trans x4
        refine (show _ = decide (some (1 + i) ∈ s.2) from inV_ways (1 + i) s.2) ▸ ?_
        by_cases hk : some (1 + i) ∈ s.2
        · rw [decide_eq_true hk]
          refine iteT ?_
          refine ⟨_, rfl, p, 2, rfl, by decide, by decide, p4, fun r3 H5 hr3 x5 p5 => ?_⟩
          have n5 := newLExc n4 x5 hp
          have hD5 : H5 D = some (.lst (L.map fun x => V.ref x.1)) := x5 _ _ (by simpa using hDp.symm) hD4
          obtain ⟨x', hx', f1, f2, f3⟩ := n5.get es
          rw [hx] at hx'
          cases hx'
          have ek := stdOf_get (F := F) (k := 1 + i) (by omega)
          obtain ⟨y, hy, k1, k2, k3⟩ := n5.get ek
          have hkok := hok _ (mem_of ek)
          generalize stdOf F (1 + i) = sk at k2 k3 hkok ek
          have ha5 := wordExc (x24.trans x5) ap ha
          refine ⟨rfl, _, rfl, ?_⟩
          generalize decide (_ = V.int 0) = bb
          cases bb
          · refine iteF ?_
            exact ⟨_, _, _, F, L, rfl, x24.trans x5, p5, hD5, n5, oD, hF, hok, hlo⟩
          · refine iteT ?_
            have h7 : ∀ w : Word, cutV (vS w) none (some 7) = vS (w.take 7) := fun w => (cut_take (vS w) 7).trans (vS_take w 7)
            refine ⟨_, rfl, _, rfl, x.2.1, _, rfl, SqL.of f2, fun q1 hq1 => ?_⟩
            rw [h7]
            have s1 := same_new (o := .lst (vS (s.1.take 7))) hq1
            refine ⟨_, rfl, ?_⟩
            refine ⟨_, rfl, .inl ⟨rfl, _, SqL.of (Same.ways s1 f3)⟩, _, rfl, ?_⟩
            dsimp only [tNil]
            refine index_ways (k := 1 + i) (Same.ways s1 f3) hk fun j hj => ?_
            have hjt : j < tags.length := by rw [← hsok.ways]; exact hj
            have et : tags[j]? = some (tags[j]'hjt) := List.getElem?_eq_getElem hjt
            have htm : tags[j]'hjt ∈ tags := List.getElem_mem hjt
            generalize tags[j]'hjt = tg at et htm
            refine ⟨a, _, _, _, rfl, rfl, SqL.of (Same.word s1 ha5), atI_nat (vS_get et), ?_⟩
            refine ⟨by show 1 ≤ sizeLine; decide, fun q2 hq2 => ?_⟩
            have s2 := Same.new s1 (o := .lst [V.str tg]) hq2
            have hq1' := (same_new (o := .lst [V.str tg]) hq2) _ _ (upd_same (H := H5) (a := q1) (o := .lst (vS (s.1.take 7))))
            refine ⟨q1, q2, _, _, rfl, rfl, hq1', upd_same, ?_, fun q3 hq3 => ?_⟩
            · rw [vS_len]
              exact sz_le (by rw [List.length_take]; show _ + 1 ≤ _; omega)
            rw [show vS (s.1.take 7) ++ [V.str tg] = vS (s.1.take 7 ++ [tg]) from vS_append (s.1.take 7) [tg]]
            have s3 := Same.new s2 (o := .lst (vS (s.1.take 7 ++ [tg]))) hq3
            have n3 : H5 q3 = none := s2.free hq3
            generalize hH6 : upd (upd (upd H5 q1 _) q2 _) q3 _ = H6 at s3 ⊢
            have h63 : WordAt H6 q3 (s.1.take 7 ++ [tg]) := by
              rw [← hH6]
              exact upd_same
            clear hH6 s2 hq2 hq1' hq3 s1 hq1
            refine ⟨_, rfl, _, rfl, D, _, ((1 + i : Nat) : Int), _, rfl, rfl, SqL.of (s3 _ _ hD5), atI_nat (by rw [List.getElem?_map, hy]; rfl), ?_⟩
            refine ⟨y.1, _, _, _, rfl, rfl, SqT.of (s3 _ _ k1), rfl, ?_⟩
            refine ⟨by show 2 ≤ sizeLine; decide, fun q4 hq4 => ?_⟩
            have n4' : H5 q4 = none := s3.free hq4
            have s4 := same_new (o := .tup [V.ref q3, V.ref y.2.2]) hq4
            have s5 := s3.trans s4
            have h73 := Same.word s4 h63
            have h74 : (upd H6 q4 (.tup [V.ref q3, V.ref y.2.2])) q4 = some (.tup [V.ref q3, V.ref y.2.2]) := upd_same
            refine ⟨_, rfl, _, rfl, D, _, ((1 + i : Nat) : Int), 1 + i, rfl, rfl, s5 _ _ hD5, ?_, ?_⟩
            · unfold ixN
              rw [if_pos (by omega), if_pos (by rw [List.length_map]; omega)]
              rfl
            generalize upd H6 q4 (.tup [V.ref q3, V.ref y.2.2]) = H7 at s4 s5 h73 h74 ⊢
            have x25 := x24.trans x5
            have o3 : q3 ∉ inner L := fun h => by
              obtain ⟨_, h⟩ := n5.there h
              rw [h] at n3
              cases n3
            have d3 : D ≠ q3 := ne_of_none hD5 n3
            have nn := newLSet (s := sk) h73 (.of (hp.free x25 p5 n4')) (.of (hp.free x25 p5 n3)) (NewL.same n5 s5) hy ek h74 o3
            have oo : D ∉ inner (L.set (1 + i) (q4, q3, y.2.2)) := fun h => by
              rcases mem_inner_set hy h with h | h
              · exact oD h
              · exact d3 h
            refine ⟨_, _, _, _, L.set (1 + i) (q4, q3, y.2.2), rfl, (x25.trans (.of s5)).mut (.inr hD0), (p5.same s5).upd hDp, ?_, nn.upd (s5 _ _ hD5) oo, oo, by rw [List.length_set, hF], fun z hz => ?_, fun i' s' h => ?_⟩
            · rw [upd_same, List.map_set]
            · rcases List.mem_or_eq_of_mem_set hz with h | h
              · exact hok z h
              · rw [h]
                refine ⟨?_, ?_, hkok.ways, hkok.to⟩
                · show (s.1.take 7 ++ [tg]).length ≤ 8
                  rw [List.length_append, List.length_take]
                  show _ + 1 ≤ 8
                  omega
                · intro t ht
                  rcases List.mem_append.mp ht with h | h
                  · exact hsok.sub t (List.mem_of_mem_take h)
                  · rw [List.mem_singleton.mp h]
                    exact htm
            · rw [List.getElem?_set] at h
              by_cases e : 1 + i = i'
              · subst e
                rw [if_pos rfl, if_pos (by omega)] at h
                have e2 := Option.some.inj h
                rw [← e2]
                show (s.1.take 7 ++ [tg]).length ≤ long + (1 + i)
                have e3 := hlo r2 s es
                rw [List.length_append, List.length_take]
                show min 7 s.1.length + 1 ≤ _
                omega
              · rw [if_neg e] at h
                exact hlo i' s' h
        · rw [decide_eq_false hk]
          refine iteF ?_
          exact ⟨_, _, _, F, L, rfl, x24, p4, hD4, n4, oD, hF, hok, hlo⟩
      · rintro σ H3 ⟨v6, v7, v8, F, L, rfl, x2, p2, hD2, nL, oD, hF, hok, hlo⟩
        refine ⟨_, rfl, q F L D H3 ⟨by omega, by omega, fun s hs => by rw [hF]; exact hok s hs⟩ (by omega) hlo x2 p2 (.mk' nL hD2 (.of hD0) oD)⟩
end
end Law
end

section
set_option Elab.async false
set_option linter.all false
set_option maxRecDepth 100000
set_option maxHeartbeats 4000000
namespace Law
open PySem PySem.Spec PyProof.Rows L2 LamX QB QM
section
variable {P : Program} {w : World} {K : PySem.W.Frag} {mg : Str → Option Value} {base : Heap}
theorem ok__law_copy (X : TX K mg) : FnOk P w K mg base CX0 1 X.d__law_copy.a X.d__law_copy.fd ["standings"] spCopied := by
  have nd := sc__law_copy.nd
  refine X.d__law_copy.F.ok sc__law_copy (fun vs H Q E h => ?_) (fun cdv A outer s H vs Q E hr h => ?_)
  · obtain ⟨b, F, rfl, _⟩ := h
    rfl
  · obtain ⟨b, F, rfl, hF, hz, k⟩ := h
    refine ⟨_, (pss_one (ps_ret (pe_lc (own := [("word", 1), ("ways", 2)]) (g := gTup K 2 (gCons (gName 1) (gCons (gName 2) (gNil)))) (tt := tYes) rfl nd (QB.pi_listK K (pv 0)) (blkOk_by (N := ["standings", "word", "ways"]) (sc := defScope s__law_copy) (by decide +kernel)) (fun _ _ _ _ _ => pg_tup (by rfl) (pgs_cons (pg_name (i := 1) nd rfl (Or.inl rfl)) (pgs_cons (pg_name (i := 2) nd rfl (Or.inl rfl)) (pgs_nil)))) (fun _ _ _ _ _ => pts_nil) (fun _ _ _ _ _ => (pe_tup (pa_cons (pe_callTy (QB.call_listK K) (by rfl) X.n_list QB.bo_list (pa_cons (pv 1) pa_nil)) (pa_cons (pe_callTy (QB.call_listK K) (by rfl) X.n_list QB.bo_list (pa_cons (pv 2) pa_nil)) pa_nil))))))), ?_⟩
    try dsimp only [Cx.nox, Cx.wish, cxOf]
    obtain ⟨vs, hv, hvl⟩ := FormAt.lst hF
    refine ⟨_, rfl, _, rfl, ⟨_, SqL.of hv⟩, fun D hD => ?_⟩
    refine lc_it (walk_listF (K := K) (p := b) (F := F)) (fun i H' => Same H H' ∧ ∃ L, H' D = some (.lst (L.map fun x => V.ref x.1)) ∧ NewL H H' L (F.take i) ∧ D ∉ inner L)
      ⟨same_new hD, [], upd_same, NewL.nil, by simp [inner]⟩ (fun i H' _ h => Same.form h.1 hF) ?_ ?_
    · rintro i x H1 H2 hi ⟨s1, L, hL, nL, oD⟩ ⟨s, t, a, b', hs, rfl, rfl, h1, h2, h3⟩
      refine ⟨t, _, rfl, SqT.of h1, rfl, _, _, rfl, _, _, rfl, rfl, rfl, ?_⟩
      refine ⟨_, rfl, _, _, rfl, .inl (SqL.of h2), fun p1 hp1 => ?_⟩
      have e1 : Same H2 (upd H2 p1 (.lst (vS s.1))) := same_new hp1
      refine ⟨_, rfl, _, _, rfl, .inl (SqL.of (Same.ways e1 h3)), fun p2 hp2 => ?_⟩
      have e2 := Same.new e1 (o := .lst (vWs s.2)) hp2
      refine ⟨by show 2 ≤ sizeLine; decide, fun p3 hp3 => ?_⟩
      have e3 := Same.new e2 (o := .tup [V.ref p1, V.ref p2]) hp3
      have q1 : (upd (upd (upd H2 p1 (.lst (vS s.1))) p2 (.lst (vWs s.2))) p3 (.tup [V.ref p1, V.ref p2])) p1 = some (.lst (vS s.1)) := by
        rw [upd_ne (ne_of_none ((upd_ne (ne_of_none upd_same hp2)).trans upd_same) hp3), upd_ne (ne_of_none upd_same hp2), upd_same]
      have q2 : (upd (upd (upd H2 p1 (.lst (vS s.1))) p2 (.lst (vWs s.2))) p3 (.tup [V.ref p1, V.ref p2])) p2 = some (.lst (vWs s.2)) := by
        rw [upd_ne (ne_of_none upd_same hp3), upd_same]
      have n2 : H2 p2 = none := e1.free hp2
      have n3 : H2 p3 = none := e2.free hp3
      have n12 : p1 ≠ p2 := ne_of_none upd_same hp2
      have hs' : F.take (i + 1) = F.take i ++ [s] := by rw [List.take_succ, hs]; rfl
      refine ⟨_, e3 _ _ hL, ?_, Same.mut (s1.trans e3) hD, L ++ [(p3, p1, p2)], ?_, ?_, ?_⟩
      · rw [List.length_map, nL.len, List.length_take]
        exact sz_lt (by omega)
      · rw [upd_same, List.map_append]
        rfl
      · rw [hs']
        have n := nL.snoc e3 hp1 n2 n12 (t := p3) (s := s) upd_same q1 q2 (.of (s1.free n3)) (.of (s1.free hp1)) (.of (s1.free n2))
        exact n.upd (e3 _ _ hL) (not_inner_snoc oD (ne_of_none hL hp1) (ne_of_none hL n2))
      · exact not_inner_snoc oD (ne_of_none hL hp1) (ne_of_none hL n2)
    · rintro H1 ⟨s1, L, hL, nL, oD⟩
      rw [List.take_length] at nL
      exact k D L H1 s1 ⟨hL, nL, .of hD, oD⟩
theorem ok__law_made (X : TX K mg) : FnOk P w K mg base CX0 3 X.d__law_made.a X.d__law_made.fd ["tags", "standings", "subject"] spMade := by
  have nd := sc__law_made.nd
  refine X.d__law_made.F.ok sc__law_made (fun vs H Q E h => ?_) (fun cdv A outer s H vs Q E hr h => ?_)
  · obtain ⟨a, b, c, tags, F, wd, rfl, _⟩ := h
    rfl
  · obtain ⟨a, b, c, tags, F, wd, rfl, hT, hF, hw, g, hin, hz, hz2, k⟩ := h
    refine ⟨_, (pss_cons (ps_asg (pe_tup (pa_cons pe_int (pa_cons pe_int pa_nil))) (pg_tup (by rfl) (pgs_cons (pg_name (i := 3) nd rfl (Or.inl rfl)) (pgs_cons (pg_name (i := 4) nd rfl (Or.inl rfl)) (pgs_nil))))) (pss_cons (ps_while PassesOwn.never (PW.pt (pw_and (pt_cmpR op_lt (pv 4) (pe_callB (QB.call_lenK K) (by rfl) X.n_len PySem.boot_len (pa_cons (pv 2) pa_nil)) (nomark _)) (pw_and1 (pt_cmpR op_notN (pe_ix (QB.ix_listK K) (pe_ix (QB.ix_tupK K) (pe_ix (QB.ix_listK K) (pv 1) (pv 3) (fun _ _ => rfl)) pe_int (fun _ _ => rfl)) (QB.pe_bmK K PySem.F.plainAttrs_list PySem.F.slot_list_index PySem.F.type_list_index (QB.mt_indexK K) (pv 0) (pa_cons (pe_ix (QB.ix_listK K) (pv 2) (pv 4) (fun _ _ => rfl)) pa_nil)) (fun _ _ => rfl)) pe_non (nomark _))))) (pss_cons (ps_set (i := 3) nd rfl (Or.inl rfl) (pe_ix (QB.ix_listK K) (pe_ix (QB.ix_tupK K) (pe_ix (QB.ix_listK K) (pv 1) (pv 3) (fun _ _ => rfl)) pe_int (fun _ _ => rfl)) (QB.pe_bmK K PySem.F.plainAttrs_list PySem.F.slot_list_index PySem.F.type_list_index (QB.mt_indexK K) (pv 0) (pa_cons (pe_ix (QB.ix_listK K) (pv 2) (pv 4) (fun _ _ => rfl)) pa_nil)) (fun _ _ => rfl))) (pss_one (ps_set (i := 4) nd rfl (Or.inl rfl) (pe_op op_add (pv 4) pe_int))))) (pss_one (ps_ret (pe_op op_cat (pe_ix (QB.ix_tupK K) (pe_ix (QB.ix_listK K) (pv 1) (pv 3) (fun _ _ => rfl)) pe_int (fun _ _ => rfl)) (pe_slice (QB.sl_listK K) (pv 2) (po_some (pv 4)) po_none)))))), ?_⟩
    try dsimp only [Cx.nox, Cx.wish, cxOf]
    refine ⟨by show 2 ≤ sizeLine; decide, fun tp htp => ?_⟩
    have s0 := same_new (o := .tup [V.int 0, V.int 0]) htp
    refine ⟨tp, _, rfl, SqT.of upd_same, rfl, _, _, rfl, _, _, rfl, rfl, ?_⟩
    generalize upd H tp (.tup [V.int 0, V.int 0]) = H0 at s0 ⊢
    refine ⟨fun m σ H' => ∃ at_ cnt : Nat, σ = [some (.ref a), some (.ref b), some (.ref c), some (.int (at_ : Int)), some (.int (cnt : Int))] ∧ Same H H' ∧ m = wd.length - cnt ∧ cnt ≤ wd.length ∧ at_ < F.length ∧ walkFrom tags F at_ cnt (wd.drop cnt) = walk tags F wd,
      ⟨_, 0, 0, rfl, s0, rfl, Nat.zero_le _, g.pos, rfl⟩, ?_⟩
    rintro m σ H1 ⟨at_, cnt, rfl, s1, rfl, hc, hat, hwk⟩
    refine ⟨_, rfl, _, rfl, _, _, rfl, .inl (SqL.of (Same.word s1 hw)), _, _, rfl, rfl, _, rfl, ?_⟩
    rw [vS_len]
    have eF : F[at_]? = some F[at_] := by simp [hat]
    have fin : ∀ (e : walk tags F wd = (at_, cnt)), ∀ (p : Addr) (H' : Hp), Same H1 H' → H1 p = none → H' p = some (.lst (vS (F[at_].1 ++ wd.drop cnt))) → Q (.ref p) H' := fun e p H' s' n' h' => by
      refine k p H' (s1.trans s') (s1.free n') ?_
      rw [h']
      unfold make
      rw [e, wordOf_of eF]
    obtain ⟨vs, t, p1, p2, f1, f2, f3, f4, f5, f6⟩ := (Same.form s1 hF).at eF
    have ret : (∀ (e : walk tags F wd = (at_, cnt)), tRet (tOp rCat (tOp (rIxT K) (tOp (rIxL K) (tVar 1) (tVar 3)) (tC (V.int 0))) (tSl (rSlL K) (tVar 2) (tPart (tVar 4)) tNoPart)) { nx := fun x H' => Q V.non H', rt := Q } [some (.ref a), some (.ref b), some (.ref c), some (.int (at_ : Int)), some (.int (cnt : Int))] H1) := fun e => by
      refine ⟨_, rfl, _, rfl, _, _, _, _, rfl, rfl, SqL.of f1, atI_nat f3, _, _, _, _, rfl, rfl, SqT.of f4, rfl, ?_⟩
      refine ⟨_, rfl, _, rfl, _, rfl, _, _, rfl, SqL.of (Same.word s1 hw), fun q hq => ?_⟩
      rw [cut_drop, vS_drop]
      refine ⟨_, _, _, _, rfl, rfl, Eq.trans (upd_ne (ne_of_none f5 hq)) f5, upd_same, ?_, fun p hp => ?_⟩
      · have z1 := hz2 _ (mem_of eF)
        have z2 : (wd.drop cnt).length ≤ wd.length := by rw [List.length_drop]; omega
        rw [vS_len, vS_len]
        exact sz_le (by omega)
      · have s2 : Same H1 (upd H1 q (.lst (vS (wd.drop cnt)))) := same_new hq
        refine fin e p _ (Same.new s2 hp) (s2.free hp) ?_
        rw [upd_same, vS_append]
    by_cases hlt : cnt < wd.length
    · rw [decide_eq_true (by omega)]
      refine iteT ?_
      have hx : wd[cnt]? = some wd[cnt] := List.getElem?_eq_getElem hlt
      have hxt : wd[cnt] ∈ tags := hin _ (List.mem_of_getElem? hx)
      have ed : wd.drop cnt = wd[cnt] :: wd.drop (cnt + 1) := List.drop_eq_getElem_cons hlt
      rw [ed] at hwk
      unfold walkFrom at hwk
      rw [wayAt_of eF] at hwk
      generalize wd[cnt] = tg at hx hxt hwk
      refine ⟨_, rfl, _, rfl, _, _, _, _, rfl, rfl, SqL.of f1, atI_nat f3, _, _, _, _, rfl, rfl, SqT.of f4, rfl, ?_⟩
      refine ⟨_, rfl, .inl ⟨rfl, _, SqL.of (Same.word s1 hT)⟩, _, rfl, _, rfl, _, _, _, _, rfl, rfl, SqL.of (Same.word s1 hw), atI_nat (vS_get hx), ?_⟩
      dsimp only [tNil]
      refine index_word (Same.word s1 hT) hxt ?_
      refine ⟨_, _, _, _, rfl, rfl, SqL.of f6, atI_nat (vWs_get (g.way eF hxt)), rfl, _, rfl, ?_⟩
      cases e : way tags F[at_] tg with
      | none =>
        rw [e] at hwk
        refine iteF ?_
        exact ret hwk.symm
      | some n =>
        rw [e] at hwk
        refine iteT ?_
        refine ⟨fun σ H' => ∃ at_ : Nat, σ = [some (.ref a), some (.ref b), some (.ref c), some (.int (at_ : Int)), some (.int ((cnt + 1 : Nat) : Int))] ∧ Same H H' ∧ at_ < F.length ∧ walkFrom tags F at_ (cnt + 1) (wd.drop (cnt + 1)) = walk tags F wd, ?_, ?_⟩
        · rintro σ' H' ⟨at2, rfl, s2, h2, h3⟩
          exact ⟨_, by omega, at2, cnt + 1, rfl, s2, rfl, by omega, h2, h3⟩
        · refine ⟨_, rfl, _, rfl, _, _, _, _, rfl, rfl, SqL.of f1, atI_nat f3, _, _, _, _, rfl, rfl, SqT.of f4, rfl, ?_⟩
          refine ⟨_, rfl, .inl ⟨rfl, _, SqL.of (Same.word s1 hT)⟩, _, rfl, _, rfl, _, _, _, _, rfl, rfl, SqL.of (Same.word s1 hw), atI_nat (vS_get hx), ?_⟩
          dsimp only [tNil]
          refine index_word (Same.word s1 hT) hxt ?_
          refine ⟨_, _, _, _, rfl, rfl, SqL.of f6, atI_nat (vWs_get (g.way eF hxt)), ?_⟩
          rw [e]
          exact ⟨_, rfl, _, _, rfl, rfl, n, rfl, s1, g.wayLt eF hxt e, hwk⟩
    · rw [decide_eq_false (by omega)]
      refine iteF (iteF ?_)
      have hd : wd.drop cnt = [] := List.drop_eq_nil_of_le (by omega)
      rw [hd] at hwk
      exact ret hwk.symm
theorem atI_last {ys : List V} {v : V} : atI (ys ++ [v]) (-1) = some v := by
  have e : ixN (ys ++ [v]).length (-1) = some ys.length := by
    unfold ixN
    rw [if_neg (by decide), List.length_append, if_pos (by show -((ys.length + 1 : Nat) : Int) ≤ -1; omega)]
    congr 1
    show (-1 + ((ys.length + 1 : Nat) : Int)).toNat = ys.length
    omega
  unfold atI
  rw [e]
  simp
def spSubject : Sp := fun vs H Q _ => ∃ (p a : Addr) (tags : Word) (most : Nat), vs = [.ref p, .ref a, .int (most : Int)] ∧ most ≤ 900 ∧ PileAt H p ∧ WordAt H a tags ∧ TagsOk tags ∧
  ∀ (wd : Word) (q : Addr) (H' : Hp), (∀ t ∈ wd, t ∈ tags) → wd.length ≤ most → Exc [p] H H' → PileAt H' p → H q = none → WordAt H' q wd → Q (.ref q) H'
end
end Law
end

section

end

section
set_option Elab.async false
set_option linter.all false
set_option maxRecDepth 100000
set_option maxHeartbeats 4000000
namespace Law
open PySem PySem.Spec PyProof.Rows L2 LamX QB QM
/-! any values handed to the checks -/
def isS : V → Bool
  | .str _ => true
  | _ => false
def valTag (tags : List Str) : V → Bool
  | .str t => decide (t ∈ tags)
  | _ => false
/-- a value of a known kind: whether it is a text -/
def Kd (K : PySem.W.Frag) (H : Hp) (x : V) : Prop := ∃ ty, TyX K H x ty ∧ PySem.W.kitOne K ty (.type "str") = some (isS x)
theorem tySame {K : PySem.W.Frag} {H H' : Hp} {x : V} {ty : Value} (h : TyX K H x ty) (s : Same H H') : TyX K H' x ty := by
  cases h with
  | base b =>
    refine .base ?_
    cases b with
    | non => exact .non
    | bl y => exact .bl y
    | int i => exact .int i
    | str y => exact .str y
    | flt y => exact .flt y
    | lst e => exact .lst (s _ _ e)
    | frz e => exact .frz (s _ _ e)
    | tup e => exact .tup (s _ _ e)
    | dK e => exact .dK (s _ _ e)
    | dT e => exact .dT (s _ _ e)
    | ins e cl ha hn htk hm => exact .ins (s _ _ e) cl ha hn htk hm
  | byt b => exact .byt b
  | set e => exact .set (s _ _ e)
  | kList e c => exact .kList e c
  | kTuple e c => exact .kTuple e c
  | kDict e c => exact .kDict e c
  | fTuple e => exact .fTuple (s _ _ e)
  | fDict e => exact .fDict (s _ _ e)
theorem Kd.same {K : PySem.W.Frag} {H H' : Hp} {x : V} (h : Kd K H x) (s : Same H H') : Kd K H' x := by
  obtain ⟨ty, h1, h2⟩ := h
  exact ⟨ty, tySame h1 s, h2⟩
section
variable {P : Program} {w : World} {K : PySem.W.Frag} {mg : Str → Option Value} {base : Heap}
theorem Kd.str {H : Hp} (t : Str) : Kd K H (.str t) := ⟨_, .base (.str t), kit_str_str⟩
theorem Kd.non {H : Hp} : Kd K H .non := ⟨_, .base .non, kit_ty (show _ = some false by decide +kernel)⟩
theorem Kd.int {H : Hp} (i : Int) : Kd K H (.int i) := ⟨_, .base (.int i), kit_ty (show _ = some false by decide +kernel)⟩
theorem Kd.bl {H : Hp} (b : Bool) : Kd K H (.bl b) := ⟨_, .base (.bl b), kit_ty (show _ = some false by decide +kernel)⟩
theorem Kd.lst {H : Hp} {a : Addr} {xs : List V} (h : H a = some (.lst xs)) : Kd K H (.ref a) := ⟨_, .base (.lst h), kit_ty (show _ = some false by decide +kernel)⟩
theorem Kd.tup {H : Hp} {a : Addr} {xs : List V} (h : H a = some (.tup xs)) : Kd K H (.ref a) := ⟨_, .base (.tup h), kit_ty (show _ = some false by decide +kernel)⟩
theorem Kd.dK {H : Hp} {a : Addr} {kvs : List (Key × V)} (h : H a = some (.dK kvs)) : Kd K H (.ref a) := ⟨_, .base (.dK h), kit_ty (show _ = some false by decide +kernel)⟩
def spIsTagA (K : PySem.W.Frag) : Sp := fun vs H Q _ => ∃ (a : Addr) (tags : List Str) (x : V), vs = [.ref a, x] ∧ WordAt H a tags ∧ Kd K H x ∧ Q (.bl (valTag tags x)) H
theorem ok_is_tag_any (X : TX K mg) : FnOk P w K mg base CX0 1 X.d_is_tag.a X.d_is_tag.fd ["tags", "x"] (spIsTagA K) := by
  have nd := sc_is_tag.nd
  refine X.d_is_tag.F.ok sc_is_tag (fun vs H Q E h => ?_) (fun cdv A outer s H vs Q E hr h => ?_)
  · obtain ⟨a, tags, x, rfl, _⟩ := h
    rfl
  · obtain ⟨a, tags, x, rfl, ha, ⟨ty, hty, hk⟩, k⟩ := h
    refine ⟨_, (pss_one (ps_ret (pe_and (pe_callB (QB.call_isiK K) (by rfl) X.n_isinstance QB.bo_isinstance (pa_cons (pv 1) (pa_cons (pe_bltn (v := .ty "str") (by rfl) X.n_str QB.bo_str rfl) pa_nil))) (pe_one (pe_cmpR (QB.op_inK K) (pv 1) (pv 0) rfl))))), ?_⟩
    try dsimp only [Cx.nox, Cx.wish, cxOf]
    refine ⟨_, rfl, _, _, _, _, isS x, rfl, .ty "str", hty, hk, isS x, rfl, ?_⟩
    cases x with
    | str t =>
      refine iteT ?_
      refine ⟨_, rfl, _, rfl, a, vS tags, rfl, .inl (SqL.of ha), rfl, vS_flat, ?_⟩
      show Q (.bl (if false = true then !inV (.str t) (vS tags) else inV (.str t) (vS tags))) H
      rw [if_neg Bool.false_ne_true, inV_word]
      exact k
    | _ => exact iteF k
def spIsSubjectA (K : PySem.W.Frag) : Sp := fun vs H Q _ => ∃ (a : Addr) (tags : List Str) (x : V), vs = [.ref a, x] ∧ WordAt H a tags ∧
  ((∃ ty, TyX K H x ty ∧ PySem.W.kitOne K ty (.type "list") = some false ∧ Q (.bl false) H) ∨
   (∃ (b : Addr) (xs : List V), x = .ref b ∧ H b = some (.lst xs) ∧ xs.length ≤ 100000 ∧ (∀ y ∈ xs, Kd K H y) ∧ ∀ H', Same H H' → Q (.bl (xs.all (valTag tags))) H'))
theorem ok_is_subject_any (X : TX K mg) : FnOk P w K mg base CX0 2 X.d_is_subject.a X.d_is_subject.fd ["tags", "x"] (spIsSubjectA K) := by
  have nd := sc_is_subject.nd
  refine X.d_is_subject.F.ok sc_is_subject (fun vs H Q E h => ?_) (fun cdv A outer s H vs Q E hr h => ?_)
  · obtain ⟨a, tags, x, rfl, _⟩ := h
    rfl
  · obtain ⟨a, tags, x, rfl, ha, h⟩ := h
    refine ⟨_, ((pss_one (ps_ret (pe_and (pe_callB (QB.call_isiK K) (by rfl) X.n_isinstance QB.bo_isinstance (pa_cons (pv 1) (pa_cons (pe_bltn (v := .ty "list") (by rfl) X.n_list QB.bo_list rfl) pa_nil))) (pe_one (pe_callB (QB.cr_allK K rfl) (by rfl) X.n_all QB.bo_all (pa_cons (pe_lc (own := [("tag", 2)]) (g := gName 2) (tt := tYes) rfl nd (QB.pi_listK K (pv 1)) (blkOk_by (N := ["tags", "x", "tag"]) (sc := defScope s_is_subject) (by decide +kernel)) (fun _ _ _ _ _ => pg_name (i := 2) nd rfl (Or.inl rfl)) (fun _ _ _ _ _ => pts_nil) (fun _ _ _ _ _ => (pe_call (ok_is_tag_any X) (hr.mono (by decide)) rfl X.d_is_tag.mg X.d_is_tag.F.kp X.d_is_tag.b .nil pass0 (pa_cons (pv 0) (pa_cons (pv 2) pa_nil))))) pa_nil))))))), ?_⟩
    try dsimp only [Cx.nox, Cx.wish, cxOf]
    rcases h with ⟨ty, hty, hk, k⟩ | ⟨b, xs, rfl, hb, hz, hkd, k⟩
    · refine ⟨_, rfl, _, _, _, _, false, rfl, .ty "list", hty, hk, false, rfl, ?_⟩
      exact iteF k
    · refine ⟨_, rfl, _, _, _, _, true, rfl, .ty "list", .base (.lst hb), kit_list_list, true, rfl, ?_⟩
      refine iteT ?_
      refine ⟨_, rfl, _, rfl, ⟨_, SqL.of hb⟩, fun D hD => ?_⟩
      refine lc_map (walk_list (K := K) (a := b) (xs := xs)) hD hz (fun H1 s1 => SqL.of (s1 _ _ hb)) (fun i => .bl (((xs[i]?).map (valTag tags)).getD false)) ?_ ?_
      · rintro i x H1 H2 kk hi s1 ⟨rfl, hy⟩ hk
        refine ⟨rfl, _, rfl, _, rfl, a, tags, x, rfl, Same.word s1 ha, Kd.same (hkd x (List.mem_of_getElem? hy)) s1, ?_⟩
        have e := hk _ (Same.refl H2)
        rw [hy] at e
        exact e
      · intro H1 s1 e
        rw [range_map_get _ xs (fun t => .bl (valTag tags t)) (fun i x hx => by rw [hx]; rfl)] at e
        refine ⟨_, xs.map (valTag tags), rfl, SqL.of (by rw [e, List.map_map]; rfl), ?_⟩
        have e2 := k H1 s1
        rw [List.all_map]
        exact e2
end
end Law
end

section
set_option Elab.async false
set_option linter.all false
set_option maxRecDepth 100000
set_option maxHeartbeats 4000000
namespace Law
open PySem PySem.Spec PyProof.Rows L2 LamX QB QM
section
variable {P : Program} {w : World} {K : PySem.W.Frag} {mg : Str → Option Value} {base : Heap}
def stopsOf (tags : List Str) (ws : Ways) : Word := ((tags.zip ws).filter fun z => z.2.isNone).map fun z => z.1
def madeAt (tags : List Str) (s : Std) (wd : Word) : Bool := decide (wd.take s.1.length = s.1) && (decide (wd.length = s.1.length) || match wd[s.1.length]? with
  | some t => decide (t ∈ stopsOf tags s.2)
  | none => false)
def spMadeAt : Sp := fun vs H Q _ => ∃ (a t c p1 p2 : Addr) (tags : List Str) (s : Std) (wd : Word), vs = [.ref a, .ref t, .ref c] ∧ WordAt H a tags ∧ H t = some (.tup [.ref p1, .ref p2]) ∧ WordAt H p1 s.1 ∧ WaysAt H p2 s.2 ∧ WordAt H c wd ∧ s.2.length = tags.length ∧ tags.length ≤ 100 ∧ OkWord s.1 ∧ OkWord wd ∧ wd.length ≤ 100000 ∧
  ∀ H', Same H H' → Q (.bl (madeAt tags s wd)) H'
theorem ok_is_made_at (X : TX K mg) : FnOk P w K mg base CX0 1 X.d_is_made_at.a X.d_is_made_at.fd ["tags", "standing", "subject"] spMadeAt := by
  have nd := sc_is_made_at.nd
  refine X.d_is_made_at.F.ok sc_is_made_at (fun vs H Q E h => ?_) (fun cdv A outer s H vs Q E hr h => ?_)
  · obtain ⟨a, t, c, p1, p2, tags, s, wd, rfl, _⟩ := h
    rfl
  · obtain ⟨a, t, c, p1, p2, tags, s, wd, rfl, ha, ht, h1, h2, hc, hl, htl, ok1, ok2, hz, k⟩ := h
    refine ⟨_, (pss_cons (ps_asg (pv 1) (pg_tup (by rfl) (pgs_cons (pg_name (i := 3) nd rfl (Or.inl rfl)) (pgs_cons (pg_name (i := 4) nd rfl (Or.inl rfl)) (pgs_nil))))) (pss_cons (ps_if (pt_cmpR (QB.op_neDK K hr.units) (pe_slice (QB.sl_listK K) (pv 2) po_none (po_some (pe_callB (QB.call_lenK K) (by rfl) X.n_len PySem.boot_len (pa_cons (pv 3) pa_nil)))) (pv 3) (nomark _)) (pss_one (ps_ret pe_bl)) pss_nil) (pss_cons (ps_setLc (i := 5) (own := [("tag", 6), ("way", 7)]) (g := gTup K 2 (gCons (gName 6) (gCons (gName 7) (gNil)))) rfl nd rfl rfl (sw_true rfl rfl rfl (by decide +kernel)) (QB.pi_zipK K (by rfl) X.n_zip (pa_cons (pv 0) (pa_cons (pv 4) pa_nil))) (blkOk_by (N := ["tags", "standing", "subject", "word", "ways", "stops", "tag", "way"]) (sc := defScope s_is_made_at) (by decide +kernel)) (fun _ _ _ _ _ => pg_tup (by rfl) (pgs_cons (pg_name (i := 6) nd rfl (Or.inl rfl)) (pgs_cons (pg_name (i := 7) nd rfl (Or.inl rfl)) (pgs_nil)))) (fun _ _ _ _ _ => pts_one (pt_cmpR op_isN (pv 7) pe_non (nomark _))) (fun _ _ _ _ _ => (pv 6))) (pss_one (ps_ret (pe_or (pe_cmpR op_eq (pe_callB (QB.call_lenK K) (by rfl) X.n_len PySem.boot_len (pa_cons (pv 2) pa_nil)) (pe_callB (QB.call_lenK K) (by rfl) X.n_len PySem.boot_len (pa_cons (pv 3) pa_nil)) (nomark _)) (pe_one (pe_cmpR (QB.op_inK K) (pe_ix (QB.ix_listK K) (pv 2) (pe_callB (QB.call_lenK K) (by rfl) X.n_len PySem.boot_len (pa_cons (pv 3) pa_nil)) (fun _ _ => rfl)) (pv 5) rfl)))))))), ?_⟩
    try dsimp only [Cx.nox, Cx.wish, cxOf]
    refine ⟨_, rfl, t, _, rfl, SqT.of ht, rfl, _, _, rfl, _, _, rfl, rfl, ?_⟩
    refine ⟨_, rfl, _, rfl, ?_⟩
    dsimp only [tNil]
    refine ⟨_, _, rfl, .inl (SqL.of h1), _, rfl, c, _, rfl, SqL.of hc, fun q1 hq1 => ?_⟩
    rw [vS_len, cut_take, vS_take]
    have s1 := same_new (o := .lst (vS (wd.take s.1.length))) hq1
    have w1 : WordAt (upd H q1 (.lst (vS (wd.take s.1.length)))) q1 (wd.take s.1.length) := upd_same
    generalize upd H q1 (.lst (vS (wd.take s.1.length))) = H1 at s1 w1 ⊢
    refine ⟨_, rfl, ne_wd w1 (Same.word s1 h1) (fun t ht => ok2 t (List.mem_of_mem_take ht)) ok1 ?_⟩
    refine ⟨_, rfl, ?_⟩
    by_cases he : wd.take s.1.length = s.1
    · rw [decide_eq_true he]
      refine iteF ?_
      have le : s.1.length ≤ wd.length := by
        have := congrArg List.length he
        rw [List.length_take] at this
        omega
      have ha1 := Same.word s1 ha
      have h21 := Same.ways s1 h2
      have hc1 := Same.word s1 hc
      have h11 := Same.word s1 h1
      have hzl : (tags.zip s.2).length = tags.length := by rw [List.length_zip, hl, Nat.min_self]
      refine ⟨_, rfl, _, rfl, a, p2, _, _, rfl, SqL.of ha1, SqL.of h21, fun D hD => ?_⟩
      refine lc_filter (walk_zip (K := K) (a := a) (b := p2) (xs := vS tags) (ys := vWs s.2) (n := tags.length) (by rw [vS_len, vWs_len, hl, Nat.min_self])) hD (by omega) (fun H' s' => ⟨SqL.of (Same.word s' ha1), SqL.of (Same.ways s' h21)⟩)
        (fun i => (((tags.zip s.2)[i]?).map fun z => V.str z.1).getD .non) (fun i => (((tags.zip s.2)[i]?).map fun z => z.2.isNone).getD false) ?_ ?_
      · rintro i x H2 H3 kk N hi s2 ⟨tp, x1, x2, rfl, ntp, rfl, e1, e2⟩ hk hN
        have g1 : tags[i]? = some tags[i] := List.getElem?_eq_getElem hi
        have g2 : s.2[i]? = some (s.2[i]'(by omega)) := List.getElem?_eq_getElem (by omega)
        have gz : (tags.zip s.2)[i]? = some (tags[i], s.2[i]'(by omega)) := by
          rw [List.getElem?_zip_eq_some]
          exact ⟨g1, g2⟩
        have e1 : (vS tags)[i]? = some x1 := e1
        have e2 : (vWs s.2)[i]? = some x2 := e2
        rw [vS_get g1] at e1
        rw [vWs_get g2] at e2
        cases e1
        cases e2
        rw [gz] at hk hN
        generalize tags[i] = tg at hk hN
        generalize s.2[i]'(by omega) = wy at hk hN
        have s3 := Same.new (Same.refl H2) (o := .tup [.str tg, vW wy]) ntp
        refine ⟨tp, _, rfl, SqT.of upd_same, rfl, _, _, rfl, _, _, rfl, rfl, rfl, ?_⟩
        refine ⟨_, rfl, rfl, _, rfl, ?_⟩
        rw [vW_is]
        cases wy with
        | none => exact iteT ⟨_, rfl, hk rfl _ s3⟩
        | some m => exact iteF (hN rfl _ s3)
      intro H2 s2 e2
      have w2 : WordAt H2 D (stopsOf tags s.2) := by
        unfold WordAt stopsOf vS
        rw [e2, List.map_map, ← hzl]
        rw [filter_range (fun z : Str × Option Nat => z.2.isNone) (fun z => V.str z.1) _ _ (tags.zip s.2) (fun j z hz => by rw [hz]; exact ⟨rfl, rfl⟩)]
        rfl
      have s12 := s1.trans s2
      refine ⟨_, rfl, ?_⟩
      dsimp only [tNil]
      refine ⟨_, _, rfl, .inl (SqL.of (Same.word s2 hc1)), _, rfl, _, _, rfl, .inl (SqL.of (Same.word s2 h11)), rfl, ?_⟩
      refine ⟨_, rfl, ?_⟩
      rw [vS_len, vS_len]
      have e := k H2 s12
      unfold madeAt at e
      rw [decide_eq_true he, Bool.true_and] at e
      by_cases hle : wd.length = s.1.length
      · rw [decide_eq_true hle, Bool.true_or] at e
        rw [decide_eq_true (congrArg (fun n : Nat => V.int (n : Int)) hle)]
        exact iteT e
      · rw [decide_eq_false hle, Bool.false_or] at e
        have hne : ¬ V.int (wd.length : Int) = V.int (s.1.length : Int) := fun z => hle (by injection z with z; omega)
        rw [decide_eq_false hne]
        refine iteF ?_
        have hlt : s.1.length < wd.length := by omega
        have g3 : wd[s.1.length]? = some wd[s.1.length] := List.getElem?_eq_getElem hlt
        rw [g3] at e
        refine ⟨_, rfl, _, rfl, ?_⟩
        refine ⟨_, _, rfl, .inl (SqL.of (Same.word s2 h11)), c, _, _, _, rfl, rfl, SqL.of (Same.word s2 hc1), by rw [vS_len]; exact atI_nat (vS_get g3), ?_⟩
        refine ⟨_, rfl, D, _, rfl, .inl (SqL.of w2), rfl, vS_flat, ?_⟩
        rw [if_neg Bool.false_ne_true, inV_word]
        exact e
    · rw [decide_eq_false he]
      refine iteT ?_
      have e := k H1 s1
      unfold madeAt at e
      rw [decide_eq_false he] at e
      exact e
end
end Law
end

section
set_option Elab.async false
set_option linter.all false
set_option maxRecDepth 100000
set_option maxHeartbeats 4000000
namespace Law
open PySem PySem.Spec PyProof.Rows L2 LamX QB QM
section
variable {P : Program} {w : World} {K : PySem.W.Frag} {mg : Str → Option Value} {base : Heap}
theorem word_of_tags {tags : Word} : ∀ {xs : List V}, xs.all (valTag tags) = true → ∃ wd : Word, xs = vS wd ∧ ∀ t ∈ wd, t ∈ tags
  | [], _ => ⟨[], rfl, fun _ h => nomatch h⟩
  | x :: xs, h => by
    rw [List.all_cons, Bool.and_eq_true] at h
    obtain ⟨wd, e, hin⟩ := word_of_tags h.2
    cases x with
    | str t =>
      have ht : t ∈ tags := of_decide_eq_true h.1
      exact ⟨t :: wd, by rw [e]; rfl, fun s hs => by
        rcases List.mem_cons.mp hs with r | r
        · rw [r]
          exact ht
        · exact hin s r⟩
    | _ => cases h.1
/-- made of some word, as the program tells it -/
def inForm (tags : Word) (G : Form) (wd : Word) : Bool := G.any fun s => madeAt tags s wd
def spInE (K : PySem.W.Frag) (C : Addr) : Sp := fun vs H Q _ => ∃ (e : Addr) (x : V) (tags : Word) (G : Form), vs = [.ref e, x] ∧ EatAt C H e tags G ∧ OkWord tags ∧ OkForm G ∧ Good tags G ∧ tags.length ≤ 100 ∧
  ((∃ ty, TyX K H x ty ∧ PySem.W.kitOne K ty (.type "list") = some false ∧ Q (.bl false) H) ∨
   (∃ (b : Addr) (xs : List V), x = .ref b ∧ H b = some (.lst xs) ∧ xs.length ≤ 100000 ∧ (∀ y ∈ xs, Kd K H y) ∧
     (xs.all (valTag tags) = false → ∀ H', Same H H' → Q (.bl false) H') ∧
     (∀ wd : Word, xs = vS wd → (∀ t ∈ wd, t ∈ tags) → ∀ H', Same H H' → Q (.bl (inForm tags G wd)) H')))
theorem ok_Eater___contains__ (X : TX K mg) : FnOk P w K mg base CX0 3 X.d_Eater___contains__.a X.d_Eater___contains__.fd ["self", "x"] (spInE K X.c_Eater) := by
  have nd := sc_Eater___contains__.nd
  refine X.d_Eater___contains__.F.ok sc_Eater___contains__ (fun vs H Q E h => ?_) (fun cdv A outer s H vs Q E hr h => ?_)
  · obtain ⟨e, x, tags, G, rfl, _⟩ := h
    rfl
  · obtain ⟨e, x, tags, G, rfl, ⟨dx, a0, b0, g1, g2, g3⟩, okt, okG, gG, htl, h⟩ := h
    refine ⟨_, ((pss_cons (ps_if (pt_not (pt_val (pe_call (ok_is_subject_any X) (hr.mono (by decide)) rfl X.d_is_subject.mg X.d_is_subject.F.kp X.d_is_subject.b .nil pass0 (pa_cons (QB.pe_fldK K (pv 0) rfl) (pa_cons (pv 1) pa_nil))))) (pss_one (ps_ret pe_bl)) pss_nil) (pss_one (ps_ret (pe_callB (QB.cr_anyK K rfl) (by rfl) X.n_any QB.bo_any (pa_cons (pe_lc (own := [("standing", 2)]) (g := gName 2) (tt := tYes) rfl nd (QB.pi_listK K (QB.pe_fldK K (pv 0) rfl)) (blkOk_by (N := ["self", "x", "standing"]) (sc := defScope s_Eater___contains__) (by decide +kernel)) (fun _ _ _ _ _ => pg_name (i := 2) nd rfl (Or.inl rfl)) (fun _ _ _ _ _ => pts_nil) (fun _ _ _ _ _ => (pe_call (ok_is_made_at X) (hr.mono (by decide)) rfl X.d_is_made_at.mg X.d_is_made_at.F.kp X.d_is_made_at.b .nil pass0 (pa_cons (QB.pe_fldK K (pv 0) rfl) (pa_cons (pv 2) (pa_cons (pv 1) pa_nil)))))) pa_nil)))))), ?_⟩
    try dsimp only [Cx.nox, Cx.wish, cxOf]
    refine ⟨_, rfl, e, _, _, _, _, rfl, g1, X.cl_Eater, X.na_Eater__tags, rfl, _, rfl, ?_⟩
    rcases h with ⟨ty, hty, hk, k⟩ | ⟨b, xs, rfl, hb, hz, hkd, k1, k2⟩
    · refine ⟨a0, tags, x, rfl, g2, .inl ⟨ty, hty, hk, ?_⟩⟩
      refine ⟨_, rfl, ?_⟩
      exact iteT k
    · refine ⟨a0, tags, .ref b, rfl, g2, .inr ⟨b, xs, rfl, hb, hz, hkd, fun H1 s1 => ?_⟩⟩
      refine ⟨_, rfl, ?_⟩
      cases hall : xs.all (valTag tags) with
      | false => exact iteT (k1 hall H1 s1)
      | true =>
        obtain ⟨wd, rfl, hin⟩ := word_of_tags hall
        refine iteF ?_
        have h31 := Same.form s1 g3
        obtain ⟨vs, hv, hvl⟩ := FormAt.lst h31
        have hGs := gG.small
        refine ⟨_, rfl, e, _, _, _, _, rfl, s1 _ _ g1, X.cl_Eater, X.na_Eater__standings, rfl, b0, rfl, ⟨_, SqL.of hv⟩, fun D hD => ?_⟩
        refine lc_map (walk_listF (K := K) (p := b0) (F := G)) hD (by omega) (fun H' s' => Same.form s' h31) (fun i => .bl (((G[i]?).map fun s => madeAt tags s wd).getD false)) ?_ ?_
        · rintro i x H2 H3 kk hi s2 ⟨s, t, p1, p2, hs, rfl, rfl, q1, q2, q3⟩ hk
          have s12 := s1.trans s2
          refine ⟨rfl, _, rfl, e, _, _, _, _, rfl, s12 _ _ g1, X.cl_Eater, X.na_Eater__tags, rfl, _, rfl, _, rfl, ?_⟩
          refine ⟨a0, t, b, p1, p2, tags, s, wd, rfl, Same.word s12 g2, q1, q2, q3, Same.word s12 hb, gG.ways hs, htl, okG s (mem_of hs), fun t ht => okt t (hin t ht), by rw [vS_len] at hz; exact hz, fun H4 s4 => ?_⟩
          have e4 := hk H4 s4
          rw [hs] at e4
          exact e4
        · intro H2 s2 e2
          rw [range_map_get _ G (fun s => .bl (madeAt tags s wd)) (fun i x hx => by rw [hx]; rfl)] at e2
          dsimp only [tNil]
          refine ⟨_, G.map fun s => madeAt tags s wd, rfl, SqL.of (by rw [e2, List.map_map]; rfl), ?_⟩
          have e3 := k2 wd rfl hin H2 (s1.trans s2)
          unfold inForm at e3
          rw [List.any_map]
          exact e3
end
end Law
end

section
set_option Elab.async false
set_option linter.all false
set_option maxRecDepth 100000
namespace Law
open PySem PySem.Spec PyProof.Rows L2 LamX QB QM
theorem leads_lt {tags : List Str} {F : Form} (g : Good tags F) : ∀ (p : Word) {i j : Nat}, i < F.length → leads tags F i p = some j → j < F.length
  | [], i, j, hi, h => by
    have h : some i = some j := h
    rw [← Option.some.inj h]
    exact hi
  | t :: p, i, j, hi, h => by
    have h : (wayAt tags F i t).bind (fun b => leads tags F b p) = some j := h
    cases e : wayAt tags F i t with
    | none =>
      rw [e] at h
      cases h
    | some b =>
      rw [e] at h
      rw [wayAt_std hi] at e
      exact leads_lt g p (g.std_to hi (way_mem e)) h
theorem mem_stops {tags : List Str} {s : Std} {t : Str} (nd : tags.Nodup) (hl : s.2.length = tags.length) : t ∈ stopsOf tags s.2 ↔ t ∈ tags ∧ way tags s t = none := by
  unfold stopsOf
  constructor
  · intro h
    obtain ⟨z, hz, rfl⟩ := List.mem_map.mp h
    obtain ⟨hz1, hz2⟩ := List.mem_filter.mp hz
    obtain ⟨q, hq, eq⟩ := List.mem_iff_getElem.mp hz1
    have e : (tags.zip s.2)[q]? = some z := by rw [List.getElem?_eq_getElem hq, eq]
    obtain ⟨x, y⟩ := z
    rw [List.getElem?_zip_eq_some] at e
    obtain ⟨e1, e2⟩ := e
    have e1 : tags[q]? = some x := e1
    have e2 : s.2[q]? = some y := e2
    obtain ⟨hq', ex⟩ := List.getElem?_eq_some_iff.mp e1
    refine ⟨List.mem_of_getElem? e1, ?_⟩
    show way tags s x = none
    unfold way ixOf
    rw [← ex, idxOf_nodup nd hq', e2]
    have hz2 : y.isNone = true := hz2
    cases y with
    | none => rfl
    | some n => cases hz2
  · rintro ⟨ht, hw⟩
    have hlt := List.idxOf_lt_length_of_mem ht
    have e1 : tags[tags.idxOf t]? = some t := by rw [List.getElem?_eq_getElem hlt, List.getElem_idxOf]
    have e2 : s.2[tags.idxOf t]? = some (s.2[tags.idxOf t]'(by omega)) := List.getElem?_eq_getElem (by omega)
    unfold way ixOf at hw
    rw [e2] at hw
    have hw : s.2[tags.idxOf t]'(by omega) = none := hw
    rw [hw] at e2
    refine List.mem_map.mpr ⟨(t, none), List.mem_filter.mpr ⟨?_, rfl⟩, rfl⟩
    exact List.mem_of_getElem? (show (tags.zip s.2)[tags.idxOf t]? = some (t, none) by rw [List.getElem?_zip_eq_some]; exact ⟨e1, e2⟩)
/-- what in tells: whether the word is made of some word -/
theorem inForm_iff {tags : List Str} {G : Form} {wd : Word} (g : Good tags G) (nd : tags.Nodup) (reach : ∀ i, i < G.length → ∃ p : Word, (∀ t ∈ p, t ∈ tags) ∧ leads tags G 0 p = some i) (hw : ∀ t ∈ wd, t ∈ tags) : inForm tags G wd = true ↔ ∃ u : Word, (∀ t ∈ u, t ∈ tags) ∧ eff tags G 0 u = wd := by
  rw [made_iff]
  unfold inForm
  rw [List.any_eq_true]
  constructor
  · rintro ⟨s, hs, hm⟩
    obtain ⟨i, hi, ei⟩ := List.mem_iff_getElem.mp hs
    obtain ⟨p, hp, lp⟩ := reach i hi
    have es : stdOf G i = s := by
      have := stdOf_get hi
      rw [List.getElem?_eq_getElem hi, ei] at this
      exact (Option.some.inj this).symm
    unfold madeAt at hm
    rw [Bool.and_eq_true, Bool.or_eq_true] at hm
    have e1 : wd.take s.1.length = s.1 := of_decide_eq_true hm.1
    refine ⟨i, p, wd.drop s.1.length, hp, fun t ht => hw t (List.mem_of_mem_drop ht), lp, ?_, ?_⟩
    · rw [wordOf_std hi, es]
      have := List.take_append_drop s.1.length wd
      rw [e1] at this
      exact this.symm
    · rcases hm.2 with h | h
      · exact .inl (List.drop_eq_nil_of_le (by have := of_decide_eq_true h; omega))
      · cases e : wd[s.1.length]? with
        | none =>
          rw [e] at h
          cases h
        | some t =>
          rw [e] at h
          have ht := (mem_stops nd (by rw [← es]; exact g.std_len hi)).mp (of_decide_eq_true h)
          obtain ⟨hlt, et⟩ := List.getElem?_eq_some_iff.mp e
          refine .inr ⟨t, wd.drop (s.1.length + 1), by rw [List.drop_eq_getElem_cons hlt, et], ?_⟩
          rw [wayAt_std hi, es]
          exact ht.2
  · rintro ⟨j, p, r, hp, hr, lp, rfl, h4⟩
    have hj := leads_lt g p g.pos lp
    refine ⟨stdOf G j, mem_of (stdOf_get hj), ?_⟩
    rw [wordOf_std hj]
    unfold madeAt
    rw [List.take_left, decide_eq_true rfl, Bool.true_and, Bool.or_eq_true]
    rcases h4 with rfl | ⟨t, r', rfl, e⟩
    · exact .inl (decide_eq_true (by simp))
    · refine .inr ?_
      have e5 : ((stdOf G j).1 ++ t :: r')[(stdOf G j).1.length]? = some t := by
        rw [List.getElem?_append_right (Nat.le_refl _), Nat.sub_self]
        rfl
      rw [e5]
      rw [wayAt_std hj] at e
      exact decide_eq_true ((mem_stops nd (g.std_len hj)).mpr ⟨hr t List.mem_cons_self, e⟩)
theorem in_least {tags : List Str} {F : Form} {wd : Word} (g : Good tags F) (nd : tags.Nodup) (hw : ∀ t ∈ wd, t ∈ tags) : inForm tags (least tags F) wd = true ↔ ∃ u : Word, (∀ t ∈ u, t ∈ tags) ∧ make tags F u = wd := by
  rw [inForm_iff (least_good g) nd (fun i hi => least_reach g nd hi) hw]
  constructor
  · rintro ⟨u, hu, e⟩
    exact ⟨u, hu, by rw [make_eff, ← least_eff g hu]; exact e⟩
  · rintro ⟨u, hu, e⟩
    exact ⟨u, hu, by rw [least_eff g hu, ← make_eff]; exact e⟩
end Law
end

section
set_option Elab.async false
set_option linter.all false
set_option maxRecDepth 100000
set_option maxHeartbeats 4000000
namespace Law
open PySem PySem.Spec PyProof.Rows L2 LamX QB QM
/-! what is the same in the laws: the draws change a pile, all else is new -/
theorem pg_tabs {T : List (Addr × Str)} {H H' : Hp} {p : Addr} (t : Tabs T H) (e : Exc [p] H H') (hp : PileAt H p) : Tabs T H' := fun q hq => by
  obtain ⟨ps, h1, h2, h3⟩ := t q hq
  obtain ⟨_, _, _, hp⟩ := hp
  have k : ∀ {a : Addr} {o : HO}, H a = some o → (∀ xs, o ≠ .lst xs) → H' a = some o := fun {a o} h n => e a o (by
    have : a ≠ p := fun z => by
      subst z
      rw [hp] at h
      exact n _ (Option.some.inj h).symm
    simpa using this) h
  refine ⟨ps, k h1 (fun _ z => nomatch z), h2, fun pos cv hc => ?_⟩
  obtain ⟨c, e1, e2⟩ := h3 pos cv hc
  exact ⟨c, e1, k e2 (fun xs z => (show Plain (.lst xs) from trivial).code c _ z.symm)⟩
theorem pg_ext {T : List (Addr × Str)} {H H1 H2 : Hp} {p : Addr} (a : QB.Ext T H H1) (e : Exc [p] H1 H2) (f : Fresh H p) (hp : PileAt H1 p) : QB.Ext T H H2 :=
  ⟨fun b o h n => e b o (by
    have := f.ne h n
    simpa using this) (a.1 b o h n), fun t => pg_tabs (a.2 t) e hp⟩
theorem pg_form {H0 H H' : Hp} {p b : Addr} {L : List Tri} {F : Form} (n : NewF H0 H b L F) (e : Exc [p] H H') (hp : PileAt H0 p) : NewF H0 H' b L F := by
  have ne : ∀ {q : Addr}, Fresh H0 q → q ∉ [p] := fun {q} f hq => by
    obtain ⟨_, _, _, hp⟩ := hp
    rw [List.mem_singleton.mp hq] at f
    exact absurd rfl (f.ne hp)
  refine ⟨e _ _ (ne n.new) n.lst, ⟨paired_mem n.all.at_ fun x s hx q => ?_, n.all.new, n.all.nd⟩, n.new, n.out⟩
  obtain ⟨f1, f2, f3⟩ := n.all.new x hx
  exact ⟨e _ _ (ne f1) q.1, e _ _ (ne f2) q.2.1, e _ _ (ne f3) q.2.2⟩
theorem pg_eat {C e dx a b : Addr} {H0 H H' : Hp} {p : Addr} {L : List Tri} {tags : Word} {G : Form} (n : EatN C H0 H e dx a b L tags G) (x : Exc [p] H H') (hp : PileAt H0 p) : EatN C H0 H' e dx a b L tags G := by
  have ne : ∀ {q : Addr}, Fresh H0 q → q ∉ [p] := fun {q} f hq => by
    obtain ⟨_, _, _, hp⟩ := hp
    rw [List.mem_singleton.mp hq] at f
    exact absurd rfl (f.ne hp)
  exact ⟨x _ _ (ne n.fe) n.ins, x _ _ (ne n.fa) n.tags, pg_form n.form x hp, n.fe, n.fa⟩
theorem pg_pile {T : List (Addr × Str)} {H H' : Hp} {p : Addr} (e : QB.Ext T H H') (h : PileAt H p) : PileAt H' p := by
  obtain ⟨d, c, n, h⟩ := h
  exact ⟨d, c, n, e.lst h⟩
/-- a list of references is no pile -/
theorem pg_refs {H H' : Hp} {p q : Addr} {ts : List Addr} (e : Exc [p] H H') (hp : PileAt H p) (h : H q = some (.lst (ts.map V.ref))) : H' q = some (.lst (ts.map V.ref)) := e q _ (fun hq => by
  obtain ⟨d, c, n, hp⟩ := hp
  rw [List.mem_singleton.mp hq, hp] at h
  have h := HO.lst.inj (Option.some.inj h)
  cases ts with
  | nil => cases h
  | cons t ts =>
    have := (List.cons.inj h).1
    cases this) h
theorem pg_word {H H' : Hp} {p q : Addr} {wd : Word} (e : Exc [p] H H') (hp : PileAt H p) (h : WordAt H q wd) : WordAt H' q wd := wordExc e (hp.word h) h
/-! mathematics -/
theorem make_sub {tags : Word} {F : Form} {wd : Word} (ok : WordsOk tags F) (h : ∀ t ∈ wd, t ∈ tags) : ∀ t ∈ make tags F wd, t ∈ tags := fun t ht => by
  unfold make at ht
  rcases List.mem_append.mp ht with h1 | h1
  · unfold wordOf at h1
    cases e : F[(walk tags F wd).1]? with
    | none =>
      rw [e] at h1
      cases h1
    | some s =>
      rw [e] at h1
      exact ok.sub s (mem_of e) t h1
  · exact h t (List.mem_of_mem_drop h1)
theorem make_len {tags : Word} {F : Form} {wd : Word} {n : Nat} (ok : ∀ s ∈ F, s.1.length ≤ n) : (make tags F wd).length ≤ n + wd.length := by
  unfold make
  rw [List.length_append, List.length_drop]
  have : (wordOf F (walk tags F wd).1).length ≤ n := by
    unfold wordOf
    cases e : F[(walk tags F wd).1]? with
    | none => exact Nat.zero_le _
    | some s => exact ok s (mem_of e)
  omega
theorem least_goodF {tags : Word} {F : Form} (fo : FormOk tags F) : Good tags (least tags F) := least_good fo.good
theorem least_wordsF {tags : Word} {F : Form} (to : TagsOk tags) (fo : FormOk tags F) : WordsOk tags (least tags F) := by
  refine ⟨fun x hx => (to.names x hx).txt, fun s hs t ht => ?_, fun s hs => ?_⟩
  · obtain ⟨s', h1, h2⟩ := least_word fo.good hs
    rw [h2] at ht
    exact (fo.all s' h1).sub t ht
  · obtain ⟨s', h1, h2⟩ := least_word fo.good hs
    rw [h2]
    have := (fo.all s' h1).len
    omega
theorem TagsOk.ok {tags : Word} (to : TagsOk tags) : OkWord tags := fun t ht => (to.names t ht).txt
theorem WordsOk.form {tags : Word} {F : Form} (h : WordsOk tags F) : OkForm F := fun s hs t ht => h.txt t (h.sub s hs t ht)
theorem sub_ok {tags wd : Word} (to : TagsOk tags) (h : ∀ t ∈ wd, t ∈ tags) : OkWord wd := fun t ht => to.ok t (h t ht)
/-- a form of one standing -/
theorem form_one {H : Hp} {p t a b : Addr} {s : Std} (h : H p = some (.lst [.ref t])) (h1 : H t = some (.tup [.ref a, .ref b])) (h2 : WordAt H a s.1) (h3 : WaysAt H b s.2) : FormAt H p [s] := ⟨[t], h, .cons ⟨a, b, h1, h2, h3⟩ .nil⟩
theorem good_one {tags : Word} {w : Word} : Good tags [(w, List.replicate tags.length none)] := by
  refine ⟨by show 0 < 1; decide, fun s hs => ?_, fun s hs n hn => ?_, by show 1 ≤ 5000; decide⟩
  · rw [List.mem_singleton.mp hs]
    exact List.length_replicate
  · rw [List.mem_singleton.mp hs] at hn
    cases List.eq_of_mem_replicate hn
theorem make_one {tags w u : Word} : make tags [(w, List.replicate tags.length none)] u = w ++ u := by
  rw [make_eff]
  cases u with
  | nil => show wordOf _ 0 = _; rw [List.append_nil]; rfl
  | cons t u =>
    rw [eff_cons]
    have e : wayAt tags [(w, List.replicate tags.length none)] 0 t = none := by
      rw [wayAt_std (by show 0 < 1; decide)]
      exact way_none fun x hx => List.eq_of_mem_replicate hx
    rw [e]
    rfl
theorem formOk_one {tags w : Word} (hw : ∀ t ∈ w, t ∈ tags) (hl : w.length ≤ 8) : FormOk tags [(w, List.replicate tags.length none)] := by
  refine ⟨by show 1 ≤ 1; decide, by show 1 ≤ 30; decide, fun s hs => ?_⟩
  rw [List.mem_singleton.mp hs]
  exact ⟨hl, hw, List.length_replicate, fun m hm => by cases List.eq_of_mem_replicate hm⟩
theorem rep_one {α : Type} (n : Nat) (x : α) : (List.replicate n [x]).flatten = List.replicate n x := by
  induction n with
  | zero => rfl
  | succ n ih =>
    rw [List.replicate_succ, List.flatten_cons, ih]
    rfl
theorem vWs_nones (n : Nat) : vWs (List.replicate n none) = List.replicate n V.non := by
  unfold vWs
  rw [List.map_replicate]
  rfl
theorem vS_rep (n : Nat) (t : Str) : vS (List.replicate n t) = List.replicate n (V.str t) := by
  unfold vS
  rw [List.map_replicate]
end Law
end

section
set_option Elab.async false
set_option linter.all false
set_option maxRecDepth 100000
set_option maxHeartbeats 4000000
namespace Law
open PySem PySem.Spec PyProof.Rows L2 LamX QB QM
/-! all words of up to so many tags, by their list -/
def lastW (tags : Word) : Nat → List Word
  | 0 => [[]]
  | n + 1 => (lastW tags n).flatMap fun w => tags.map fun t => w ++ [t]
def allW (tags : Word) : Nat → List Word
  | 0 => [[]]
  | n + 1 => allW tags n ++ lastW tags (n + 1)
theorem snoc_of : ∀ (w : Word) (n : Nat), w.length = n + 1 → ∃ u t, w = u ++ [t] ∧ u.length = n
  | [x], n, h => ⟨[], x, rfl, by
    have h : 1 = n + 1 := h
    show 0 = n
    omega⟩
  | x :: y :: xs, 0, h => by
    have h : xs.length + 1 + 1 = 0 + 1 := h
    omega
  | x :: y :: xs, n + 1, h => by
    obtain ⟨u, t, e, hl⟩ := snoc_of (y :: xs) n (by rw [List.length_cons] at h; omega)
    exact ⟨x :: u, t, by rw [e]; rfl, by rw [List.length_cons, hl]⟩
theorem lastW_mem {tags : Word} : ∀ (n : Nat) (w : Word), w ∈ lastW tags n ↔ (∀ t ∈ w, t ∈ tags) ∧ w.length = n
  | 0, w => by
    unfold lastW
    rw [List.mem_singleton]
    constructor
    · rintro rfl
      exact ⟨(fun _ h => nomatch h), rfl⟩
    · rintro ⟨_, h⟩
      exact List.length_eq_zero_iff.mp h
  | n + 1, w => by
    unfold lastW
    rw [List.mem_flatMap]
    constructor
    · rintro ⟨u, hu, hw⟩
      obtain ⟨t, ht, rfl⟩ := List.mem_map.mp hw
      obtain ⟨h1, h2⟩ := (lastW_mem n u).mp hu
      refine ⟨fun s hs => ?_, by rw [List.length_append, h2]; rfl⟩
      rcases List.mem_append.mp hs with h | h
      · exact h1 s h
      · rw [List.mem_singleton.mp h]
        exact ht
    · rintro ⟨h1, h2⟩
      obtain ⟨u, t, rfl, hl⟩ := snoc_of w n h2
      exact ⟨u, (lastW_mem n u).mpr ⟨fun s hs => h1 s (List.mem_append_left _ hs), hl⟩, List.mem_map.mpr ⟨t, h1 t (by simp), rfl⟩⟩
theorem allW_mem {tags : Word} : ∀ (n : Nat) (w : Word), w ∈ allW tags n ↔ (∀ t ∈ w, t ∈ tags) ∧ w.length ≤ n
  | 0, w => by
    have h := lastW_mem (tags := tags) 0 w
    show w ∈ lastW tags 0 ↔ _
    rw [h]
    constructor
    · rintro ⟨h1, h2⟩
      exact ⟨h1, by omega⟩
    · rintro ⟨h1, h2⟩
      exact ⟨h1, by omega⟩
  | n + 1, w => by
    unfold allW
    rw [List.mem_append, allW_mem n w, lastW_mem (n + 1) w]
    constructor
    · rintro (⟨h1, h2⟩ | ⟨h1, h2⟩)
      · exact ⟨h1, by omega⟩
      · exact ⟨h1, by omega⟩
    · rintro ⟨h1, h2⟩
      by_cases h : w.length ≤ n
      · exact .inl ⟨h1, h⟩
      · exact .inr ⟨h1, by omega⟩
theorem flat_len {α β : Type} {f : α → List β} {k : Nat} : ∀ (l : List α), (∀ x ∈ l, (f x).length = k) → (l.flatMap f).length = l.length * k
  | [], _ => by simp
  | x :: l, h => by
    rw [List.flatMap_cons, List.length_append, h x List.mem_cons_self, flat_len l fun y hy => h y (List.mem_cons_of_mem _ hy), List.length_cons, Nat.succ_mul]
    omega
theorem lastW_len {tags : Word} (h : tags.length ≤ 3) : ∀ n, (lastW tags n).length ≤ 3 ^ n
  | 0 => Nat.le_refl _
  | n + 1 => by
    unfold lastW
    rw [flat_len (k := tags.length) _ fun x _ => List.length_map _, Nat.pow_succ]
    exact Nat.mul_le_mul (lastW_len h n) h
theorem allW_len {tags : Word} (h : tags.length ≤ 3) : ∀ n, (allW tags n).length ≤ 3 ^ (n + 1)
  | 0 => by show 1 ≤ 3 ^ 1; decide
  | n + 1 => by
    unfold allW
    have h1 := allW_len h n
    have h2 := lastW_len h (n + 1)
    have e6 : 3 ^ (n + 1 + 1) = 3 ^ (n + 1) * 3 := Nat.pow_succ 3 (n + 1)
    rw [List.length_append]
    omega
def WsAt (H : Hp) (ts : List Addr) (W : List Word) : Prop := Paired (fun q wd => WordAt H q wd) ts W
theorem WsAt.same {H H' : Hp} {ts : List Addr} {W : List Word} (h : WsAt H ts W) (s : Same H H') : WsAt H' ts W := L2.Paired.mapP h fun _ _ q => Same.word s q
theorem WsAt.ext {T : List (Addr × Str)} {H H' : Hp} {ts : List Addr} {W : List Word} (h : WsAt H ts W) (s : QB.Ext T H H') : WsAt H' ts W := L2.Paired.mapP h fun _ _ q => s.word q
theorem paired_app {α β : Type} {R : α → β → Prop} : ∀ {l l' : List α} {m m' : List β}, Paired R l m → Paired R l' m' → Paired R (l ++ l') (m ++ m')
  | _, _, _, _, .nil, h => h
  | _, _, _, _, .cons q t, h => .cons q (paired_app t h)
theorem WsAt.append {H : Hp} {ts us : List Addr} {W V : List Word} (h : WsAt H ts W) (h' : WsAt H us V) : WsAt H (ts ++ us) (W ++ V) := paired_app h h'
theorem WsAt.mem {H : Hp} {q : Addr} : ∀ {ts : List Addr} {W : List Word}, WsAt H ts W → q ∈ ts → ∃ wd ∈ W, WordAt H q wd
  | _, _, .cons (b := w) h t, hq => by
    rcases List.mem_cons.mp hq with rfl | hq
    · exact ⟨_, List.mem_cons_self, h⟩
    · obtain ⟨wd, h1, h2⟩ := WsAt.mem t hq
      exact ⟨wd, List.mem_cons_of_mem _ h1, h2⟩
theorem WsAt.upd {H : Hp} {D : Addr} {o : HO} {ts : List Addr} {W : List Word} (h : WsAt H ts W) (n : D ∉ ts) : WsAt (L2.upd H D o) ts W := paired_mem h fun q wd hq hw => Eq.trans (upd_ne (fun e => n (by rw [← e]; exact hq))) hw
section
variable {P : Program} {w : World} {K : PySem.W.Frag} {mg : Str → Option Value} {base : Heap}
def spWordsA : Sp := fun vs H Q _ => ∃ (a : Addr) (tags : Word) (most : Nat), vs = [.ref a, .int (most : Int)] ∧ WordAt H a tags ∧ (∀ i, i ≤ most → (lastW tags i).length ≤ 20000 ∧ (allW tags i).length ≤ 60000) ∧ tags.length ≤ 6 ∧ most ≤ 12 ∧
  ∀ (p : Addr) (ts : List Addr) (H' : Hp), Same H H' → H p = none → H' p = some (.lst (ts.map V.ref)) → WsAt H' ts (allW tags most) → Q (.ref p) H'
theorem three_pow (i : Nat) (h : i ≤ 9) : 3 ^ i ≤ 19683 := Nat.le_trans (Nat.pow_le_pow_right (by decide) h) (by decide)
theorem ok__law_words (X : TX K mg) : FnOk P w K mg base CX0 1 X.d__law_words.a X.d__law_words.fd ["tags", "most"] spWordsA := by
  have nd := sc__law_words.nd
  refine X.d__law_words.F.ok sc__law_words (fun vs H Q E h => ?_) (fun cdv A outer s H vs Q E hr h => ?_)
  · obtain ⟨a, tags, most, rfl, _⟩ := h
    rfl
  · obtain ⟨a, tags, most, rfl, ha, hB, htl, hm, k⟩ := h
    refine ⟨_, (pss_cons (ps_set (i := 2) nd rfl (Or.inl rfl) (pe_lst (pa_cons (pe_lst pa_nil) pa_nil))) (pss_cons (ps_set (i := 3) nd rfl (Or.inl rfl) (pe_lst (pa_cons (pe_lst pa_nil) pa_nil))) (pss_cons (ps_for PassesOwn.never rfl (pi_range1 (by rfl) X.n_range (pa_cons (pv 1) pa_nil)) (pg_name (i := 4) nd rfl (Or.inl rfl)) (pss_cons (ps_set (i := 5) nd rfl (Or.inl rfl) (pe_lst pa_nil)) (pss_cons (ps_for PassesOwn.never rfl (QB.pi_listK K (pv 3)) (pg_name (i := 6) nd rfl (Or.inr rfl)) (pss_one (ps_set (i := 5) nd rfl (Or.inl rfl) (pe_op op_cat (pv 5) (pe_lc (own := [("tag", 7)]) (g := gName 7) (tt := tYes) rfl nd (QB.pi_listK K (pv 0)) (blkOk_by (N := ["tags", "most", "found", "last", "turn", "longer", "word", "tag"]) (sc := defScope s__law_words) (by decide +kernel)) (fun _ _ _ _ _ => pg_name (i := 7) nd rfl (Or.inl rfl)) (fun _ _ _ _ _ => pts_nil) (fun _ _ _ _ _ => (pe_op op_cat (pv 6) (pe_lst (pa_cons (pv 7) pa_nil))))))))) (pss_cons (ps_set (i := 2) nd rfl (Or.inl rfl) (pe_op op_cat (pv 2) (pv 5))) (pss_one (ps_set (i := 3) nd rfl (Or.inl rfl) (pv 5))))))) (pss_one (ps_ret (pv 2)))))), ?_⟩
    try dsimp only [Cx.nox, Cx.wish, cxOf]
    have h8 : most ≤ 12 := hm
    refine ⟨by show 0 ≤ sizeLine; decide, fun q1 n1 => ⟨by show 1 ≤ sizeLine; decide, fun p1 m1 => ?_⟩⟩
    have s1 : Same H (upd H q1 (.lst [])) := same_new n1
    have s2 : Same H (upd (upd H q1 (.lst [])) p1 (.lst [V.ref q1])) := Same.new s1 m1
    have w1 : WordAt (upd (upd H q1 (.lst [])) p1 (.lst [V.ref q1])) q1 [] := (upd_ne (ne_of_none upd_same m1)).trans upd_same
    have l1 : (upd (upd H q1 (.lst [])) p1 (.lst [V.ref q1])) p1 = some (.lst [V.ref q1]) := upd_same
    generalize upd (upd H q1 (.lst [])) p1 (.lst [V.ref q1]) = H1 at s2 w1 l1 ⊢
    refine ⟨by show 0 ≤ sizeLine; decide, fun q2 n2 => ⟨by show 1 ≤ sizeLine; decide, fun p2 m2 => ?_⟩⟩
    have s3 : Same H1 (upd (upd H1 q2 (.lst [])) p2 (.lst [V.ref q2])) := Same.new (same_new n2) m2
    have w2 : WordAt (upd (upd H1 q2 (.lst [])) p2 (.lst [V.ref q2])) q2 [] := (upd_ne (ne_of_none upd_same m2)).trans upd_same
    have l2 : (upd (upd H1 q2 (.lst [])) p2 (.lst [V.ref q2])) p2 = some (.lst [V.ref q2]) := upd_same
    generalize upd (upd H1 q2 (.lst [])) p2 (.lst [V.ref q2]) = H2 at s3 w2 l2 ⊢
    have fp1 : H p1 = none := (same_new (o := .lst ([] : List V)) n1).free m1
    refine ⟨_, rfl, (most : Int), rfl, by omega, by omega, ?_⟩
    refine for_it (walk_range (lo := 0) (n := most)) (fun i σ H' => ∃ (v4 v5 v6 : Option V) (p p' : Addr) (ts us : List Addr), σ = [some (.ref a), some (.int (most : Int)), some (.ref p), some (.ref p'), v4, v5, v6, none] ∧ Same H H' ∧ H p = none ∧
        H' p = some (.lst (ts.map V.ref)) ∧ H' p' = some (.lst (us.map V.ref)) ∧ WsAt H' ts (allW tags i) ∧ WsAt H' us (lastW tags i))
      ⟨none, none, none, p1, p2, [q1], [q2], rfl, s2.trans s3, fp1, s3 _ _ l1, l2, .cons (Same.word s3 w1) .nil, .cons w2 .nil⟩ (fun _ _ _ _ _ => True.intro) ?_ ?_
    · rintro i x σ H3 H4 hi ⟨v4, v5, v6, p, p', ts, us, rfl, s4, fp, hT, hU, wT, wU⟩ ⟨rfl, rfl⟩
      have lT : ts.length ≤ 60000 := by rw [Paired.length wT]; exact (hB i (by omega)).2
      have lU : us.length ≤ 20000 := by rw [Paired.length wU]; exact (hB i (by omega)).1
      have lX := (hB (i + 1) (by omega)).1
      have lsl : ∀ {Hx : Hp} {ls : List Addr} {j : Nat}, WsAt Hx ls (((lastW tags i).take j).flatMap fun w => tags.map fun t => w ++ [t]) → ls.length ≤ 20000 := fun {Hx ls j} q => by
        have e1 := Paired.length q
        rw [flat_len (k := tags.length) _ fun x _ => List.length_map _] at e1
        have e2 : (lastW tags (i + 1)).length = (lastW tags i).length * tags.length := flat_len (k := tags.length) _ fun x _ => List.length_map _
        have e3 : ((lastW tags i).take j).length * tags.length ≤ (lastW tags i).length * tags.length := Nat.mul_le_mul_right _ (by rw [List.length_take]; omega)
        omega
      refine ⟨by show 0 ≤ sizeLine; decide, fun d hd => ?_⟩
      have s5 : Same H (upd H4 d (.lst [])) := Same.new s4 hd
      have s45 : Same H4 (upd H4 d (.lst [])) := same_new hd
      refine ⟨_, rfl, _, rfl, ⟨_, SqL.of (s45 _ _ hU)⟩, ?_⟩
      refine for_it (walk_list (K := K) (a := p') (xs := us.map V.ref)) (fun j σ H' => ∃ (v6 : Option V) (d : Addr) (ls : List Addr), σ = [some (.ref a), some (.int (most : Int)), some (.ref p), some (.ref p'), some (.int (0 + (i : Int))), some (.ref d), v6, none] ∧ Same H4 H' ∧
          H' d = some (.lst (ls.map V.ref)) ∧ WsAt H' ls (((lastW tags i).take j).flatMap fun w => tags.map fun t => w ++ [t]))
        ⟨_, d, [], rfl, s45, upd_same, .nil⟩ (fun j σ H' _ ⟨_, _, _, _, s6, _⟩ => SqL.of (s6 _ _ hU)) ?_ ?_
      · rintro j x σ H5 H6 hj ⟨v6, d, ls, rfl, s6, hL, wL⟩ ⟨rfl, hx⟩
        have lL := lsl wL
        rw [List.length_map] at hj
        rw [List.getElem?_map, List.getElem?_eq_getElem hj] at hx
        cases hx
        obtain ⟨wd, hwg, hwd⟩ := paired_get' wU (List.getElem?_eq_getElem hj)
        obtain ⟨hin, hlw⟩ := (lastW_mem i wd).mp (List.mem_of_getElem? hwg)
        generalize us[j] = q at hwd
        refine ⟨_, rfl, _, rfl, _, rfl, ⟨_, SqL.of (Same.word s6 (Same.word s4 ha))⟩, fun D hD => ?_⟩
        have ha6 : WordAt H6 a tags := Same.word s6 (Same.word s4 ha)
        have hq6 : WordAt H6 q wd := Same.word s6 hwd
        refine lc_it (walk_listW (K := K) (a := a) (w := tags)) (fun m H' => Same H6 H' ∧ ∃ ks : List Addr, ks.length = m ∧ H' D = some (.lst (ks.map V.ref)) ∧ WsAt H' ks ((tags.take m).map fun t => wd ++ [t]))
          ⟨same_new hD, [], rfl, upd_same, .nil⟩ (fun m H' _ h => Same.word h.1 ha6) ?_ ?_
        · rintro m y H7 H8 hm ⟨s7, ks, hkl, hK, wK⟩ ⟨t, ht, rfl, rfl⟩
          have htt := List.mem_of_getElem? ht
          refine ⟨rfl, _, rfl, _, rfl, by show 1 ≤ sizeLine; decide, fun c hc => ?_⟩
          have s8 := same_new (o := .lst [V.str t]) hc
          refine ⟨_, _, _, _, rfl, rfl, Same.word s8 (Same.word s7 hq6), upd_same, by rw [vS_len]; exact sz_le (by show wd.length + 1 ≤ _; omega), fun c2 hc2 => ?_⟩
          have s9 := Same.new s8 (o := .lst (vS wd ++ [V.str t])) hc2
          have hKD := s9 _ _ hK
          have w9 : WordAt (upd (upd H8 c (.lst [V.str t])) c2 (.lst (vS wd ++ [V.str t]))) c2 (wd ++ [t]) := by
            unfold WordAt
            rw [upd_same, ← vS_append]
            rfl
          have ncD : c2 ≠ D := (ne_of_none (s8 _ _ hK) hc2).symm
          have W9 : WsAt (upd (upd H8 c (.lst [V.str t])) c2 (.lst (vS wd ++ [V.str t]))) (ks ++ [c2]) ((tags.take (m + 1)).map fun t => wd ++ [t]) := by
            rw [List.take_succ, ht, List.map_append]
            exact (wK.same s9).append (.cons w9 .nil)
          have nin : D ∉ ks ++ [c2] := fun h => by
            rcases List.mem_append.mp h with h | h
            · obtain ⟨wd2, _, h2⟩ := wK.mem h
              have h2 : H8 D = some (.lst (vS wd2)) := h2
              rw [hK] at h2
              have h3 := HO.lst.inj (Option.some.inj h2)
              cases ks with
              | nil => cases h
              | cons z zs =>
                cases wd2 with
                | nil => cases h3
                | cons t2 w2 =>
                  have h4 := (List.cons.inj h3).1
                  cases h4
            · exact ncD (List.mem_singleton.mp h).symm
          refine ⟨_, hKD, by rw [List.length_map]; exact sz_lt (by omega), Same.mut (s7.trans s9) hD, ks ++ [c2], by rw [List.length_append, hkl]; rfl, ?_, W9.upd nin⟩
          rw [upd_same, List.map_append]
          rfl
        · rintro H7 ⟨s7, ks, hkl, hK, wK⟩
          rw [List.take_length] at wK
          have hL7 := s7 _ _ hL
          refine ⟨_, _, _, _, rfl, rfl, hL7, hK, ?_, fun d2 hd2 => ?_⟩
          · rw [List.length_map, List.length_map]
            exact sz_le (by omega)
          · have s8 := Same.new s7 (o := .lst (ls.map V.ref ++ ks.map V.ref)) hd2
            refine ⟨_, d2, ls ++ ks, rfl, s6.trans s8, ?_, ?_⟩
            · rw [upd_same, List.map_append]
            · rw [List.take_succ, hwg, List.flatMap_append]
              refine ((wL.same s7).append ?_).same (same_new hd2)
              show WsAt H7 ks ([wd].flatMap fun w => tags.map fun t => w ++ [t])
              rw [List.flatMap_cons, List.flatMap_nil, List.append_nil]
              exact wK
      · rintro σ H5 ⟨v6, d, ls, rfl, s6, hL, wL⟩
        rw [List.length_map, Paired.length wU, List.take_length] at wL
        have wL : WsAt H5 ls (lastW tags (i + 1)) := wL
        have lL2 : ls.length ≤ 20000 := by
          rw [Paired.length wL]
          exact lX
        have hT5 := s6 _ _ hT
        refine ⟨_, rfl, _, rfl, _, _, _, _, rfl, rfl, hT5, hL, ?_, fun f hf => ?_⟩
        · rw [List.length_map, List.length_map]
          exact sz_le (by omega)
        · have s7 : Same H5 (upd H5 f (.lst (ts.map V.ref ++ ls.map V.ref))) := same_new hf
          refine ⟨_, rfl, _, _, _, f, d, ts ++ ls, ls, rfl, (s4.trans s6).trans s7, (s4.trans s6).free hf, ?_, s7 _ _ hL, ((wT.same s6).append wL).same s7, wL.same s7⟩
          rw [upd_same, List.map_append]
    · rintro σ H3 ⟨v4, v5, v6, p, p', ts, us, rfl, s4, fp, hT, hU, wT, wU⟩
      exact ⟨_, rfl, k p ts H3 s4 fp hT wT⟩
end
end Law
end

section
set_option Elab.async false
set_option linter.all false
set_option maxRecDepth 100000
set_option maxHeartbeats 4000000
namespace Law
open PySem PySem.Spec PyProof.Rows L2 LamX QB QM
/-- what is made behind one more tag -/
def madeAft (A : Form) (st : Word) : Option Nat → Word
  | none => st
  | some j => (stdOf A j).1
theorem isN_vW (x : Option Nat) : decide (vW x = V.non) = x.isNone := by
  cases x <;> simp [vW]
section
variable {P : Program} {w : World} {K : PySem.W.Frag} {mg : Str → Option Value} {base : Heap}
def spStepped : Sp := fun vs H Q _ => ∃ (f c : Addr) (tags : Word) (A : Form) (x : Option Nat) (n : Nat) (t : Str) (st : Word), vs = [.ref f, vW x, .int (n : Int), .ref c] ∧ FormAt H f A ∧ Good tags A ∧ (∀ i, x = some i → i < A.length) ∧ tags.Nodup ∧ tags[n]? = some t ∧ WordAt H c st ∧
  ∀ (q c' : Addr) (H' : Hp), Same H H' → H' q = some (.tup [vW (x.bind fun i => way tags (stdOf A i) t), .ref c']) → WordAt H' c' (madeAft A st (x.bind fun i => way tags (stdOf A i) t)) → Q (.ref q) H'
theorem ok_stepped (X : TX K mg) : FnOk P w K mg base CX0 1 X.d_stepped.a X.d_stepped.fd ["standings", "at", "place", "stopped"] spStepped := by
  have nd := sc_stepped.nd
  refine X.d_stepped.F.ok sc_stepped (fun vs H Q E h => ?_) (fun cdv A0 outer s H vs Q E hr h => ?_)
  · obtain ⟨f, c, tags, A, x, n, t, st, rfl, _⟩ := h
    rfl
  · obtain ⟨f, c, tags, A, x, n, t, st, rfl, hF, g, hx, nt, ht, hc, k⟩ := h
    refine ⟨_, (pss_cons (ps_set (i := 4) nd rfl (Or.inl rfl) (pe_ifExp (pt_cmpR op_isN (pv 1) pe_non (nomark _)) pe_non (pe_ix (QB.ix_listK K) (pe_ix (QB.ix_tupK K) (pe_ix (QB.ix_listK K) (pv 0) (pv 1) (fun _ _ => rfl)) pe_int (fun _ _ => rfl)) (pv 2) (fun _ _ => rfl)))) (pss_cons (ps_if (pt_cmpR op_isN (pv 4) pe_non (nomark _)) (pss_one (ps_ret (pe_tup (pa_cons pe_non (pa_cons (pv 3) pa_nil))))) pss_nil) (pss_one (ps_ret (pe_tup (pa_cons (pv 4) (pa_cons (pe_ix (QB.ix_tupK K) (pe_ix (QB.ix_listK K) (pv 0) (pv 4) (fun _ _ => rfl)) pe_int (fun _ _ => rfl)) pa_nil))))))), ?_⟩
    try dsimp only [Cx.nox, Cx.wish, cxOf]
    refine ⟨_, rfl, rfl, _, rfl, ?_⟩
    rw [vW_is]
    cases x with
    | none =>
      refine iteT ?_
      refine ⟨_, rfl, rfl, _, rfl, ?_⟩
      refine iteT ?_
      refine ⟨_, rfl, by show 2 ≤ sizeLine; decide, fun q hq => ?_⟩
      exact k q c _ (same_new hq) upd_same (Same.word (same_new hq) hc)
    | some i =>
      refine iteF ?_
      have hi := hx i rfl
      obtain ⟨vs, tt, p1, p2, f1, f2, f3, f4, f5, f6⟩ := hF.at (stdOf_get hi)
      have hn : n < tags.length := by
        rcases Nat.lt_or_ge n tags.length with h | h
        · exact h
        · rw [List.getElem?_eq_none h] at ht
          cases ht
      have hw : (stdOf A i).2[n]? = some (way tags (stdOf A i) t) := by
        have ht2 : tags[n] = t := by
          rw [List.getElem?_eq_getElem hn] at ht
          exact Option.some.inj ht
        unfold way ixOf
        rw [← ht2, idxOf_nodup nt hn, List.getElem?_eq_getElem (by rw [g.std_len hi]; exact hn)]
        rfl
      refine ⟨_, rfl, _, rfl, _, _, _, _, rfl, rfl, SqL.of f1, atI_nat f3, _, _, _, _, rfl, rfl, SqT.of f4, rfl, _, rfl, _, _, _, _, rfl, rfl, SqL.of f6, atI_nat (vWs_get hw), ?_⟩
      have k : ∀ (q c' : Addr) (H' : Hp), Same H H' → H' q = some (.tup [vW (way tags (stdOf A i) t), .ref c']) → WordAt H' c' (madeAft A st (way tags (stdOf A i) t)) → Q (.ref q) H' := k
      have hto : ∀ m, way tags (stdOf A i) t = some m → m < A.length := fun m hm => g.std_to hi (way_mem hm)
      generalize way tags (stdOf A i) t = y at hw k hto ⊢
      refine ⟨_, rfl, rfl, _, rfl, ?_⟩
      rw [vW_is]
      cases y with
      | none =>
        refine iteT ?_
        refine ⟨_, rfl, by show 2 ≤ sizeLine; decide, fun q hq => ?_⟩
        exact k q c _ (same_new hq) upd_same (Same.word (same_new hq) hc)
      | some m =>
        refine iteF ?_
        obtain ⟨vs2, tt2, r1, r2, h1, h2, h3, h4, h5, h6⟩ := hF.at (stdOf_get (hto m rfl))
        refine ⟨_, rfl, _, rfl, _, rfl, _, _, _, _, rfl, rfl, SqL.of h1, atI_nat h3, _, _, _, _, rfl, rfl, SqT.of h4, rfl, by show 2 ≤ sizeLine; decide, fun q hq => ?_⟩
        exact k q r1 _ (same_new hq) upd_same (Same.word (same_new hq) h5)
end
end Law
end

section
set_option Elab.async false
set_option linter.all false
set_option maxRecDepth 100000
set_option maxHeartbeats 4000000
namespace Law
open PySem PySem.Spec PyProof.Rows L2 LamX QB QM
def oKey : Option Nat → NestedKey
  | none => .none
  | some n => .num (n : Int)
def pKey (z : Option Nat × Option Nat) : NestedKey := .tup [oKey z.1, oKey z.2]
theorem oKey_inj {x y : Option Nat} (h : oKey x = oKey y) : x = y := by
  cases x with
  | none =>
    cases y with
    | none => rfl
    | some m => cases h
  | some n =>
    cases y with
    | none => cases h
    | some m =>
      have h : NestedKey.num (n : Int) = .num (m : Int) := h
      injection h with h
      have : n = m := by omega
      rw [this]
theorem pKey_inj {x y : Option Nat × Option Nat} (h : pKey x = pKey y) : x = y := by
  unfold pKey at h
  injection h with h
  injection h with h1 h2
  injection h2 with h2 _
  exact Prod.ext (oKey_inj h1) (oKey_inj h2)
theorem pKey_depth (z : Option Nat × Option Nat) : (pKey z).depth ≤ 8 := by
  obtain ⟨x, y⟩ := z
  cases x <;> cases y <;> simp [pKey, oKey, NestedKey.depth, NestedKey.depthAll]
def NodeAt (H : Hp) (nd : Addr) (z : Option Nat × Option Nat) : Prop := H nd = some (.tup [vW z.1, vW z.2])
theorem nv_o {H : Hp} (x : Option Nat) : QD.NV H (oKey x) (vW x) := by
  cases x with
  | none => exact .none
  | some n => exact .num _
theorem nv_node {H : Hp} {nd : Addr} {z : Option Nat × Option Nat} (h : NodeAt H nd z) : QD.NV H (pKey z) (.ref nd) := .tup h (.cons (nv_o _) (.cons (nv_o _) .nil))
/-- what the dict of the search tells -/
def CameOk (H : Hp) (kvs : List (NestedKey × V)) (tags : Word) (A B : Form) (ps : List Word) : Prop := ∀ p ∈ ps, (p = [] ∧ valV kvs (pKey (pairOf tags A B p)) = some .non) ∨
  ∃ r nd p' t, valV kvs (pKey (pairOf tags A B p)) = some (.ref r) ∧ H r = some (.tup [.ref nd, .str t]) ∧ NodeAt H nd (pairOf tags A B p') ∧ p' ∈ ps ∧ p = p' ++ [t]
theorem CameOk.keep {H H' : Hp} {kvs : List (NestedKey × V)} {tags : Word} {A B : Form} {ps : List Word} (h : CameOk H kvs tags A B ps) (t : ∀ b xs, H b = some (.tup xs) → H' b = some (.tup xs)) : CameOk H' kvs tags A B ps := fun p hp => by
  rcases h p hp with q | ⟨r, nd, p', s, q1, q2, q3, q4⟩
  · exact .inl q
  · exact .inr ⟨r, nd, p', s, q1, t _ _ q2, t _ _ q3, q4⟩
section
variable {P : Program} {w : World} {K : PySem.W.Frag} {mg : Str → Option Value} {base : Heap}
def spWayBack (P : Program) (w : World) : Sp := fun vs H Q _ => ∃ (d nd : Addr) (kvs : List (NestedKey × V)) (tags : Word) (A B : Form) (ps : List Word) (p : Word), vs = [.ref d, .ref nd] ∧ QD.DN P w H d kvs ∧ CameOk H kvs tags A B ps ∧ p ∈ ps ∧ NodeAt H nd (pairOf tags A B p) ∧ p.length ≤ 5000 ∧
  ∀ (z : Addr) (H' : Hp), Same H H' → H z = none → WordAt H' z p → Q (.ref z) H'
theorem ok_way_back (X : TX K mg) : FnOk P w K mg base CX0 1 X.d_way_back.a X.d_way_back.fd ["came", "node"] (spWayBack P w) := by
  have nd0 := sc_way_back.nd
  have nd := nd0
  refine X.d_way_back.F.ok sc_way_back (fun vs H Q E h => ?_) (fun cdv A0 outer s H vs Q E hr h => ?_)
  · obtain ⟨d, n0, kvs, tags, A, B, ps, p, rfl, _⟩ := h
    rfl
  · obtain ⟨d, n0, kvs, tags, A, B, ps, p, rfl, dn, co, hp, hn, hl, k⟩ := h
    refine ⟨_, (pss_cons (ps_set (i := 2) nd rfl (Or.inl rfl) (pe_lst pa_nil)) (pss_cons (ps_while PassesOwn.never (pt_cmpR op_notN (QD.pe_getN (hu64 hr) (pv 0) (pv 1) (fun _ _ => rfl)) pe_non (nomark _)) (pss_cons (ps_asg (QD.pe_getN (hu64 hr) (pv 0) (pv 1) (fun _ _ => rfl)) (pg_tup (by rfl) (pgs_cons (pg_name (i := 1) nd rfl (Or.inl rfl)) (pgs_cons (pg_name (i := 3) nd rfl (Or.inl rfl)) (pgs_nil))))) (pss_one (ps_expr (QB.pe_bmK K PySem.F.plainAttrs_list PySem.F.slot_list_append PySem.F.type_list_append mt_append (pv 2) (pa_cons (pv 3) pa_nil)))))) (pss_one (ps_ret (QN.pe_turn K (pv 2)))))), ?_⟩
    try dsimp only [Cx.nox, Cx.wish, cxOf]
    have hdd : H d ≠ none := by
      obtain ⟨_, xs, e, _⟩ := dn
      rw [e]
      exact fun z => nomatch z
    refine ⟨by show 0 ≤ sizeLine; decide, fun D hD => ?_⟩
    have s1 := same_new (o := .lst ([] : List V)) hD
    have k1 : WordAt (upd H D (.lst [])) D [] := upd_same
    refine ⟨fun m σ H' => ∃ (n1 : Addr) (v3 : Option V) (q sfx : Word), σ = [some (.ref d), some (.ref n1), some (.ref D), v3] ∧ Same H H' ∧ q ∈ ps ∧ NodeAt H' n1 (pairOf tags A B q) ∧ p = q ++ sfx ∧ WordAt H' D sfx.reverse ∧ m = q.length,
      ⟨_, n0, _, p, [], rfl, s1, hp, s1 _ _ hn, by rw [List.append_nil], k1, rfl⟩, ?_⟩
    rintro m σ H1 ⟨n1, v3, q, sfx, rfl, sA, hq, hn1, hpq, hDw, rfl⟩
    have tk : ∀ b xs, H b = some (.tup xs) → H1 b = some (.tup xs) := fun b xs e => sA _ _ e
    have dn1 : QD.DN P w H1 d kvs := dn.to tk (by
      obtain ⟨_, xs, e, _⟩ := dn
      rw [sA _ _ e, e])
    have co1 := co.keep tk
    have hsl : q.length + sfx.length ≤ 5000 := by
      rw [hpq, List.length_append] at hl
      exact hl
    rcases co1 q hq with ⟨rfl, hv⟩ | ⟨r, n2, q', t, hv, hr1, hn2, hq', rfl⟩
    · refine ⟨_, rfl, _, rfl, d, n1, kvs, _, _, rfl, rfl, dn1, nv_node hn1, pKey_depth _, hv, rfl, _, rfl, ?_⟩
      refine iteF ?_
      refine ⟨_, rfl, D, _, rfl, SqL.of hDw, fun z hz => ?_⟩
      refine k z _ (sA.trans (same_new hz)) (sA.free hz) ?_
      rw [hpq]
      unfold WordAt
      rw [upd_same]
      show some (HO.lst (vS sfx.reverse).reverse) = some (.lst (vS ([] ++ sfx)))
      unfold vS
      rw [← List.map_reverse, List.reverse_reverse]
      rfl
    · refine ⟨_, rfl, _, rfl, d, n1, kvs, _, _, rfl, rfl, dn1, nv_node hn1, pKey_depth _, hv, rfl, _, rfl, ?_⟩
      refine iteT ?_
      refine ⟨_, fun σ' H' h => h, ?_⟩
      refine ⟨_, rfl, _, rfl, d, n1, kvs, _, _, rfl, rfl, dn1, nv_node hn1, pKey_depth _, hv, r, _, rfl, SqT.of hr1, rfl, _, _, rfl, _, _, rfl, rfl, ?_⟩
      refine ⟨_, rfl, .inl ⟨rfl, _, SqL.of hDw⟩, _, rfl, D, _, _, rfl, rfl, hDw, by rw [vS_len, List.length_reverse]; exact sz_lt (by omega), ?_⟩
      refine ⟨q'.length, by rw [List.length_append]; show q'.length < q'.length + 1; omega, n2, _, q', t :: sfx, rfl, Same.mut sA hD, hq', ?_, by rw [hpq, List.append_assoc]; rfl, ?_, rfl⟩
      · exact Eq.trans (upd_ne (ne_of hn2 hDw (fun z => nomatch z))) hn2
      · unfold WordAt
        rw [upd_same, List.reverse_cons, ← vS_append]
        rfl
end
end Law
end

section
set_option Elab.async false
set_option linter.all false
set_option maxRecDepth 100000
set_option maxHeartbeats 4000000
namespace Law
open PySem PySem.Spec PyProof.Rows L2 LamX QB QM
def oN : Option Nat → Nat
  | none => 0
  | some i => i + 1
theorem oN_inj {x y : Option Nat} (h : oN x = oN y) : x = y := by
  cases x <;> cases y <;> simp [oN] at h <;> try rfl
  rw [h]
def enc2 (m : Nat) (z : Option Nat × Option Nat) : Nat := oN z.1 * (m + 1) + oN z.2
theorem enc2_inj {m : Nat} {x y : Option Nat × Option Nat} (hx : oN x.2 ≤ m) (hy : oN y.2 ≤ m) (h : enc2 m x = enc2 m y) : x = y := by
  unfold enc2 at h
  have h1 : oN x.2 = oN y.2 := by
    have := congrArg (· % (m + 1)) h
    simp only [Nat.mul_add_mod'] at this
    rwa [Nat.mod_eq_of_lt (by omega), Nat.mod_eq_of_lt (by omega)] at this
  have h2 : oN x.1 = oN y.1 := by
    rw [h1] at h
    exact Nat.eq_of_mul_eq_mul_right (by omega : 0 < m + 1) (by omega)
  exact Prod.ext (oN_inj h2) (oN_inj h1)
theorem pairs_le {n m : Nat} {l : List (Option Nat × Option Nat)} (nd : l.Nodup) (h : ∀ z ∈ l, oN z.1 ≤ n ∧ oN z.2 ≤ m) : l.length ≤ (n + 1) * (m + 1) := by
  have := nodup_le ((n + 1) * (m + 1)) (l.map (enc2 m)) (by
    rw [List.Nodup, List.pairwise_map]
    refine List.Pairwise.imp_of_mem (fun {x y} hx hy hne => ?_) nd
    exact fun e => hne (enc2_inj (h x hx).2 (h y hy).2 e)) fun x hx => by
      obtain ⟨z, hz, rfl⟩ := List.mem_map.mp hx
      obtain ⟨h1, h2⟩ := h z hz
      unfold enc2
      have := Nat.mul_le_mul_right (m + 1) h1
      rw [Nat.add_mul]
      omega
  rwa [List.length_map] at this
theorem leads_bound {tags : Word} {A : Form} (g : Good tags A) {u : Word} {n : Nat} (hn : A.length ≤ n) : oN (leads tags A 0 u) ≤ n := by
  cases e : leads tags A 0 u with
  | none => exact Nat.zero_le _
  | some i =>
    have := leads_lt g u g.pos e
    show i + 1 ≤ n
    omega
/-- the keys of the search's dict -/
def KeysOk (kvs : List (NestedKey × V)) (tags : Word) (A B : Form) (ps : List Word) : Prop := ∀ z, (valV kvs (pKey z)).isSome = true ↔ z = (none, none) ∨ z ∈ ps.map (pairOf tags A B)
theorem KeysOk.put {kvs : List (NestedKey × V)} {tags : Word} {A B : Form} {ps : List Word} {w : Word} {v : V} (h : KeysOk kvs tags A B ps) : KeysOk (putK kvs (pKey (pairOf tags A B w)) v) tags A B (ps ++ [w]) := fun z => by
  rw [valV_put]
  by_cases e : pKey z = pKey (pairOf tags A B w)
  · have e2 := pKey_inj e
    rw [if_pos e]
    subst e2
    simp
  · rw [if_neg e, h z]
    have ne : z ≠ pairOf tags A B w := fun q => e (by rw [q])
    rw [List.map_append, List.mem_append]
    constructor
    · rintro (q | q)
      · exact .inl q
      · exact .inr (.inl q)
    · rintro (q | q | q)
      · exact .inl q
      · exact .inr q
      · exact absurd (by simpa using q) ne
theorem CameOk.put {H : Hp} {kvs : List (NestedKey × V)} {tags : Word} {A B : Form} {ps : List Word} {p : Word} {t : Str} {r nd : Addr} (h : CameOk H kvs tags A B ps) (hno : pairOf tags A B (p ++ [t]) ∉ ps.map (pairOf tags A B)) (hp : p ∈ ps) (hr : H r = some (.tup [.ref nd, .str t])) (hn : NodeAt H nd (pairOf tags A B p)) :
    CameOk H (putK kvs (pKey (pairOf tags A B (p ++ [t]))) (.ref r)) tags A B (ps ++ [p ++ [t]]) := fun q hq => by
  rcases List.mem_append.mp hq with hq | hq
  · have ne : ¬ pKey (pairOf tags A B q) = pKey (pairOf tags A B (p ++ [t])) := fun e => hno (by rw [← pKey_inj e]; exact List.mem_map.mpr ⟨q, hq, rfl⟩)
    rw [valV_put, if_neg ne]
    rcases h q hq with z | ⟨r2, n2, p2, s, z1, z2, z3, z4, z5⟩
    · exact .inl z
    · exact .inr ⟨r2, n2, p2, s, z1, z2, z3, List.mem_append_left _ z4, z5⟩
  · have e : q = p ++ [t] := List.mem_singleton.mp hq
    subst e
    rw [valV_put, if_pos rfl]
    exact .inr ⟨r, nd, p, t, rfl, hr, hn, List.mem_append_left _ hp, rfl⟩
/-- what the search is sure of at a row -/
def RowOk (tags : Word) (A B : Form) (ps : List Word) (at_ : Nat) : Prop := (∀ p, ps[at_]? = some p → Seen tags A B ps (tags.length * rk tags p + 1)) ∧ (at_ = ps.length → ∀ u : Word, (∀ t ∈ u, t ∈ tags) → make tags A u = make tags B u)
theorem rowOk_next {tags : Word} {A B : Form} {ps : List Word} {at_ : Nat} {p : Word} (hk : 1 ≤ tags.length) (hp : ps[at_]? = some p) (S : Seen tags A B ps (tags.length * rk tags p + tags.length + 1)) : RowOk tags A B ps (at_ + 1) := by
  have hlt : at_ < ps.length := by
    rcases Nat.lt_or_ge at_ ps.length with h | h
    · exact h
    · rw [List.getElem?_eq_none h] at hp
      cases hp
  have pw := List.pairwise_iff_getElem.mp S.inc
  have hpe : ps[at_] = p := by
    rw [List.getElem?_eq_getElem hlt] at hp
    exact Option.some.inj hp
  refine ⟨fun p' hp' => ?_, fun he u hu => ?_⟩
  · have hlt' : at_ + 1 < ps.length := by
      rcases Nat.lt_or_ge (at_ + 1) ps.length with h | h
      · exact h
      · rw [List.getElem?_eq_none h] at hp'
        cases hp'
    have hpe' : ps[at_ + 1] = p' := by
      rw [List.getElem?_eq_getElem hlt'] at hp'
      exact Option.some.inj hp'
    have hr := pw at_ (at_ + 1) hlt hlt' (by omega)
    rw [hpe, hpe'] at hr
    refine S.jump rfl (r' := rk tags p') (fun q hq => ?_) (Nat.le_refl _) ?_
    · obtain ⟨i, hi, e⟩ := List.mem_iff_getElem.mp hq
      rcases Nat.lt_trichotomy i at_ with h | h | h
      · have := pw i at_ hi hlt h
        rw [e, hpe] at this
        exact .inl (by omega)
      · subst h
        rw [hpe] at e
        rw [e]
        exact .inl (Nat.le_refl _)
      · rcases Nat.lt_or_ge (at_ + 1) i with h2 | h2
        · have := pw (at_ + 1) i hlt' hi h2
          rw [e, hpe'] at this
          exact .inr (by omega)
        · have : i = at_ + 1 := by omega
          subst this
          rw [hpe'] at e
          rw [e]
          exact .inr (Nat.le_refl _)
    · have := Nat.mul_le_mul_left tags.length (show rk tags p + 1 ≤ rk tags p' by omega)
      rw [Nat.mul_add] at this
      omega
  · have h1 : rk tags u ≤ tags.length * (rk tags u + rk tags p + 2) := by
      have := Nat.mul_le_mul_right (rk tags u + rk tags p + 2) hk
      omega
    have h2 : tags.length * rk tags p + tags.length + 1 ≤ tags.length * (rk tags u + rk tags p + 2) + 1 := by
      have := Nat.mul_le_mul_left tags.length (show rk tags p + 1 ≤ rk tags u + rk tags p + 2 by omega)
      rw [Nat.mul_add] at this
      omega
    have S2 := S.jump rfl (r' := rk tags u + rk tags p + 2) (b' := tags.length * (rk tags u + rk tags p + 2) + 1) (fun q hq => ?_) (Nat.le_refl _) h2
    · exact (S2.all u hu (by omega)).1
    · obtain ⟨i, hi, e⟩ := List.mem_iff_getElem.mp hq
      rcases Nat.lt_trichotomy i at_ with h | h | h
      · have := pw i at_ hi hlt h
        rw [e, hpe] at this
        exact .inl (by omega)
      · subst h
        rw [hpe] at e
        rw [e]
        exact .inl (Nat.le_refl _)
      · omega
end Law
end

section
set_option Elab.async false
set_option linter.all false
set_option maxRecDepth 100000
set_option maxHeartbeats 4000000
namespace Law
open PySem PySem.Spec PyProof.Rows L2 LamX QB QM
section
variable {P : Program} {w : World} {K : PySem.W.Frag} {mg : Str → Option Value} {base : Heap}
theorem aft_lead {tags : Word} {A : Form} {p : Word} {t : Str} (g : Good tags A) : ((leads tags A 0 p).bind fun i => way tags (stdOf A i) t) = leads tags A 0 (p ++ [t]) := by
  rw [leads_app]
  cases e : leads tags A 0 p with
  | none => rfl
  | some i =>
    have hi := leads_lt g p g.pos e
    exact (wayAt_std hi).symm
theorem aft_made {tags : Word} {A : Form} {p : Word} {t : Str} (g : Good tags A) : madeAft A (make tags A p ++ [t]) ((leads tags A 0 p).bind fun i => way tags (stdOf A i) t) = make tags A (p ++ [t]) := by
  cases e : leads tags A 0 p with
  | none => exact (make_none e [t]).symm
  | some i =>
    have hi := leads_lt g p g.pos e
    rw [make_some e, eff_cons, wayAt_std hi, make_lead e]
    show madeAft A _ (way tags (stdOf A i) t) = _
    cases e2 : way tags (stdOf A i) t with
    | none => rfl
    | some j =>
      have hj := g.std_to hi (way_mem e2)
      exact (wordOf_std hj).symm
/-- what is told of two forms -/
def PartV (tags : Word) (A B : Form) (H H' : Hp) (v : V) : Prop := (v = .non ∧ ∀ u : Word, (∀ t ∈ u, t ∈ tags) → make tags A u = make tags B u) ∨
  ∃ (z : Addr) (wd : Word), v = .ref z ∧ H z = none ∧ WordAt H' z wd ∧ (∀ t ∈ wd, t ∈ tags) ∧ make tags A wd ≠ make tags B wd ∧ ∀ u : Word, (∀ t ∈ u, t ∈ tags) → make tags A u ≠ make tags B u → rk tags wd ≤ rk tags u
def spParting : Sp := fun vs H Q _ => ∃ (a f h : Addr) (tags : Word) (A B : Form), vs = [.ref a, .ref f, .ref h] ∧ WordAt H a tags ∧ FormAt H f A ∧ FormAt H h B ∧ Good tags A ∧ Good tags B ∧ WordsOk tags A ∧ WordsOk tags B ∧ TagsOk tags ∧ A.length ≤ 30 ∧ B.length ≤ 30 ∧
  ∀ (v : V) (H' : Hp), Same H H' → PartV tags A B H H' v → Q v H'
theorem ok_parting_word (X : TX K mg) : FnOk P w K mg base CX0 2 X.d_parting_word.a X.d_parting_word.fd ["tags", "one", "other"] spParting := by
  have nd := sc_parting_word.nd
  refine X.d_parting_word.F.ok sc_parting_word (fun vs H Q E h => ?_) (fun cdv A0 outer s H vs Q E hr h => ?_)
  · obtain ⟨a, f, h, tags, A, B, rfl, _⟩ := h
    rfl
  · obtain ⟨a, f, h, tags, A, B, rfl, ha, hF, hG, gA, gB, wA, wB, to, lA, lB, k⟩ := h
    refine ⟨_, (pss_cons (ps_if (pt_cmpR (QB.op_neDK K hr.units) (pe_ix (QB.ix_tupK K) (pe_ix (QB.ix_listK K) (pv 1) pe_int (fun _ _ => rfl)) pe_int (fun _ _ => rfl)) (pe_ix (QB.ix_tupK K) (pe_ix (QB.ix_listK K) (pv 2) pe_int (fun _ _ => rfl)) pe_int (fun _ _ => rfl)) (nomark _)) (pss_one (ps_ret (pe_lst pa_nil))) pss_nil) (pss_cons (ps_set (i := 3) nd rfl (Or.inl rfl) (QD.pe_dispN (hu64 hr) (pps_cons (pe_tup (pa_cons pe_int (pa_cons pe_int pa_nil))) pe_non (pps_cons (pe_tup (pa_cons pe_non (pa_cons pe_non pa_nil))) pe_non pps_nil)) (by rfl) (by rfl) (fun z => by cases z) (by decide))) (pss_cons (ps_set (i := 4) nd rfl (Or.inl rfl) (pe_lst (pa_cons (pe_tup (pa_cons pe_int (pa_cons pe_int pa_nil))) pa_nil))) (pss_cons (ps_set (i := 5) nd rfl (Or.inl rfl) pe_int) (pss_cons (ps_while PassesOwn.never (pt_cmpR op_lt (pv 5) (pe_callB (QB.call_lenK K) (by rfl) X.n_len PySem.boot_len (pa_cons (pv 4) pa_nil)) (nomark _)) (pss_cons (ps_asg (pe_ix (QB.ix_listK K) (pv 4) (pv 5) (fun _ _ => rfl)) (pg_tup (by rfl) (pgs_cons (pg_name (i := 6) nd rfl (Or.inl rfl)) (pgs_cons (pg_name (i := 7) nd rfl (Or.inl rfl)) (pgs_nil))))) (pss_cons (ps_set (i := 8) nd rfl (Or.inl rfl) (pe_ifExp (pt_cmpR op_notN (pv 6) pe_non (nomark _)) (pe_ix (QB.ix_tupK K) (pe_ix (QB.ix_listK K) (pv 1) (pv 6) (fun _ _ => rfl)) pe_int (fun _ _ => rfl)) (pe_ix (QB.ix_tupK K) (pe_ix (QB.ix_listK K) (pv 2) (pv 7) (fun _ _ => rfl)) pe_int (fun _ _ => rfl)))) (pss_cons (ps_for PassesOwn.never rfl (QB.pi_enumK K (by rfl) X.n_enumerate (pa_cons (pv 0) pa_nil)) (pg_tup (by rfl) (pgs_cons (pg_name (i := 9) nd rfl (Or.inl rfl)) (pgs_cons (pg_name (i := 10) nd rfl (Or.inl rfl)) (pgs_nil)))) (pss_cons (ps_asg (pe_call (ok_stepped X) (hr.mono (by decide)) rfl X.d_stepped.mg X.d_stepped.F.kp X.d_stepped.b .nil pass0 (pa_cons (pv 1) (pa_cons (pv 6) (pa_cons (pv 9) (pa_cons (pe_op op_cat (pv 8) (pe_lst (pa_cons (pv 10) pa_nil))) pa_nil))))) (pg_tup (by rfl) (pgs_cons (pg_name (i := 11) nd rfl (Or.inl rfl)) (pgs_cons (pg_name (i := 12) nd rfl (Or.inl rfl)) (pgs_nil))))) (pss_cons (ps_asg (pe_call (ok_stepped X) (hr.mono (by decide)) rfl X.d_stepped.mg X.d_stepped.F.kp X.d_stepped.b .nil pass0 (pa_cons (pv 2) (pa_cons (pv 7) (pa_cons (pv 9) (pa_cons (pe_op op_cat (pv 8) (pe_lst (pa_cons (pv 10) pa_nil))) pa_nil))))) (pg_tup (by rfl) (pgs_cons (pg_name (i := 13) nd rfl (Or.inl rfl)) (pgs_cons (pg_name (i := 14) nd rfl (Or.inl rfl)) (pgs_nil))))) (pss_cons (ps_if (pt_cmpR (QB.op_neDK K hr.units) (pv 12) (pv 14) (nomark _)) (pss_one (ps_ret (pe_op op_cat (pe_call (ok_way_back X) (hr.mono (by decide)) rfl X.d_way_back.mg X.d_way_back.F.kp X.d_way_back.b .nil pass0 (pa_cons (pv 3) (pa_cons (pe_ix (QB.ix_listK K) (pv 4) (pv 5) (fun _ _ => rfl)) pa_nil))) (pe_lst (pa_cons (pv 10) pa_nil))))) pss_nil) (pss_one (ps_if (pt_cmp (QD.pc_notinN (hu64 hr) (pe_tup (pa_cons (pv 11) (pa_cons (pv 13) pa_nil))) (pv 3))) (pss_cons (QD.ps_putN (hu64 hr) (pv 3) (pe_tup (pa_cons (pv 11) (pa_cons (pv 13) pa_nil))) (pe_tup (pa_cons (pe_ix (QB.ix_listK K) (pv 4) (pv 5) (fun _ _ => rfl)) (pa_cons (pv 10) pa_nil))) rfl) (pss_one (ps_expr (QB.pe_bmK K PySem.F.plainAttrs_list PySem.F.slot_list_append PySem.F.type_list_append mt_append (pv 4) (pa_cons (pe_tup (pa_cons (pv 11) (pa_cons (pv 13) pa_nil))) pa_nil))))) pss_nil)))))) (pss_one (ps_aug (i := 5) nd rfl (Or.inl rfl) pe_int ip_add)))))) (pss_one (ps_ret pe_non))))))), ?_⟩
    try dsimp only [Cx.nox, Cx.wish, cxOf]
    have okt := to.ok
    have htp := to.pos
    have htl := to.len
    obtain ⟨vs1, t1, p1, p2, f1, f2, f3, f4, f5, f6⟩ := hF.at (stdOf_get gA.pos)
    obtain ⟨vs2, t2, r1, r2, h1, h2, h3, h4, h5, h6⟩ := hG.at (stdOf_get gB.pos)
    have okA : OkWord (stdOf A 0).1 := fun t ht => okt t (wA.sub _ (mem_of (stdOf_get gA.pos)) t ht)
    have okB : OkWord (stdOf B 0).1 := fun t ht => okt t (wB.sub _ (mem_of (stdOf_get gB.pos)) t ht)
    have mA : make tags A [] = (stdOf A 0).1 := by
      rw [make_eff]
      exact wordOf_std gA.pos
    have mB : make tags B [] = (stdOf B 0).1 := by
      rw [make_eff]
      exact wordOf_std gB.pos
    refine ⟨_, rfl, _, _, _, _, rfl, rfl, SqL.of f1, atI_nat (j := 0) f3, _, _, _, _, rfl, rfl, SqT.of f4, rfl, _, rfl, _, _, _, _, rfl, rfl, SqL.of h1, atI_nat (j := 0) h3, _, _, _, _, rfl, rfl, SqT.of h4, rfl, ?_⟩
    refine ne_wd f5 h5 okA okB ?_
    refine ⟨_, rfl, ?_⟩
    by_cases hz : (stdOf A 0).1 = (stdOf B 0).1
    case neg =>
      rw [decide_eq_false hz]
      refine iteT ?_
      refine ⟨by show 0 ≤ sizeLine; decide, fun z nz => ?_⟩
      refine k _ _ (same_new nz) (.inr ⟨z, [], rfl, nz, upd_same, (fun _ h => nomatch h), by rw [mA, mB]; exact hz, fun u _ _ => Nat.zero_le _⟩)
    rw [decide_eq_true hz]
    refine iteF ?_
    clear f1 f2 f3 f4 f5 f6 h1 h2 h3 h4 h5 h6
    -- came
    refine fun Cm HC hCm hCf hCn => ?_
    have sC : Same H HC := fun x o hx => by
      have : x ≠ Cm := fun e => by
        rw [e, hCm] at hx
        cases hx
      rw [hCf x this]
      exact hx
    refine ⟨by show 2 ≤ sizeLine; decide, fun n0 hn0 => ?_⟩
    have s0 := same_new (o := .tup [V.int 0, V.int 0]) hn0
    have k0 : NodeAt (upd HC n0 (.tup [V.int 0, V.int 0])) n0 (some 0, some 0) := upd_same
    have c0 : n0 ≠ Cm := fun e => hCn (by rw [← e]; exact hn0)
    have e0 : (upd HC n0 (.tup [V.int 0, V.int 0])) Cm = HC Cm := upd_ne c0.symm
    generalize upd HC n0 (.tup [V.int 0, V.int 0]) = H1 at s0 k0 e0 ⊢
    refine ⟨by show 2 ≤ sizeLine; decide, fun n1 hn1 => ?_⟩
    have s1 := same_new (o := .tup [V.non, V.non]) hn1
    have k1 : NodeAt (upd H1 n1 (.tup [V.non, V.non])) n1 (none, none) := upd_same
    have c1 : n1 ≠ Cm := fun e => hCn (by rw [← e0, ← e]; exact hn1)
    have e1 : (upd H1 n1 (.tup [V.non, V.non])) Cm = HC Cm := (upd_ne c1.symm).trans e0
    have k01 := s1 _ _ k0
    generalize upd H1 n1 (.tup [V.non, V.non]) = H2 at s1 k1 e1 k01 ⊢
    refine ⟨e1, [(pKey (some 0, some 0), n0, .non), (pKey (none, none), n1, .non)], rfl, fun e he => ?_, by show 2 ≤ 15; decide, fun H3 hf3 dn3 hn3 => ?_⟩
    · rcases List.mem_cons.mp he with rfl | he
      · exact ⟨nv_node k01, pKey_depth _⟩
      · rw [List.mem_singleton.mp he]
        exact ⟨nv_node k1, pKey_depth _⟩
    have s3 : Same H H3 := fun x o hx => by
      have : x ≠ Cm := fun e => by
        rw [e, hCm] at hx
        cases hx
      rw [hf3 x this]
      exact s1 _ _ (s0 _ _ (sC _ _ hx))
    have hC3 : H3 Cm ≠ none := hn3
    clear s0 s1 k0 k1 e0 e1 k01 c0 c1 hf3 hn3 hCf hCn hn0 hn1 sC
    -- met
    refine ⟨by show 2 ≤ sizeLine; decide, fun m0 hm0 => ?_⟩
    have s4 := same_new (o := .tup [V.int 0, V.int 0]) hm0
    have k4 : NodeAt (upd H3 m0 (.tup [V.int 0, V.int 0])) m0 (some 0, some 0) := upd_same
    have d4 : QD.DN P w (upd H3 m0 (.tup [V.int 0, V.int 0])) Cm _ := dn3.to (fun b xs e => s4 _ _ e) (upd_ne (fun e => hC3 (by rw [e]; exact hm0)))
    generalize upd H3 m0 (.tup [V.int 0, V.int 0]) = H4 at s4 k4 d4 ⊢
    have hC4 : H4 Cm ≠ none := by
      obtain ⟨_, xs, e, _⟩ := d4
      rw [e]
      exact fun z => nomatch z
    refine ⟨by show 1 ≤ sizeLine; decide, fun ML hML => ?_⟩
    have s5 := same_new (o := .lst [V.ref m0]) hML
    have k5 : (upd H4 ML (.lst [V.ref m0])) ML = some (.lst ([m0].map V.ref)) := upd_same
    have d5 : QD.DN P w (upd H4 ML (.lst [V.ref m0])) Cm _ := d4.to (fun b xs e => s5 _ _ e) (upd_ne (fun e => hC4 (by rw [e]; exact hML)))
    have n5 := s5 _ _ k4
    have hMLH : H ML = none := (s3.trans s4).free hML
    have hCML : Cm ≠ ML := fun e => hC4 (by rw [e]; exact hML)
    generalize upd H4 ML (.lst [V.ref m0]) = H5 at s5 k5 d5 n5 ⊢
    have sA := s3.trans (s4.trans s5)
    clear s3 s4 s5 k4 d4 dn3 hC3 hC4 hML hm0
    have S0 : Seen tags A B [[]] 1 := Seen.start (by rw [mA, mB]; exact hz)
    have v0 : ∀ z, valV (QD.putAll [] [(pKey (some 0, some 0), n0, .non), (pKey (none, none), n1, .non)]) (pKey z) = if z = (none, none) ∨ z = (some 0, some 0) then some V.non else none := fun z => by
      show valV (putK (putK [] (pKey (some 0, some 0)) V.non) (pKey (none, none)) V.non) (pKey z) = _
      rw [valV_put, valV_put]
      by_cases q1 : z = (none, none)
      · subst q1
        simp
      · have q1' : ¬ pKey z = pKey (none, none) := fun e => q1 (pKey_inj e)
        rw [if_neg q1']
        by_cases q2 : z = (some 0, some 0)
        · subst q2
          simp
        · have q2' : ¬ pKey z = pKey (some 0, some 0) := fun e => q2 (pKey_inj e)
          rw [if_neg q2', if_neg (fun e => e.elim q1 q2)]
          rfl
    have ko0 : KeysOk (QD.putAll [] [(pKey (some 0, some 0), n0, .non), (pKey (none, none), n1, .non)]) tags A B [[]] := fun z => by
      rw [v0]
      show _ ↔ z = (none, none) ∨ z ∈ [(some 0, some 0)]
      by_cases q : z = (none, none) ∨ z = (some 0, some 0)
      · rw [if_pos q]
        simpa using q
      · rw [if_neg q]
        simpa using q
    have co0 : CameOk H5 (QD.putAll [] [(pKey (some 0, some 0), n0, .non), (pKey (none, none), n1, .non)]) tags A B [[]] := fun p hp => by
      rw [List.mem_singleton.mp hp]
      refine .inl ⟨rfl, ?_⟩
      rw [v0]
      exact if_pos (.inr rfl)
    have kl0 : (QD.putAll [] [(pKey (some 0, some 0), n0, V.non), (pKey (none, none), n1, .non)]).length ≤ 2 := QD.putAll_len _ []
    generalize QD.putAll [] [(pKey (some 0, some 0), n0, V.non), (pKey (none, none), n1, .non)] = kv0 at d5 ko0 co0 kl0
    clear v0
    refine ⟨fun m σ H' => ∃ (v6 v7 v8 v9 v10 v11 v12 v13 v14 : Option V) (at_ : Nat) (kvs : List (NestedKey × V)) (ms : List Addr) (ps : List Word), σ = [some (.ref a), some (.ref f), some (.ref h), some (.ref Cm), some (.ref ML), some (.int (at_ : Int)), v6, v7, v8, v9, v10, v11, v12, v13, v14] ∧ Same H H' ∧ QD.DN P w H' Cm kvs ∧
        H' ML = some (.lst (ms.map V.ref)) ∧ Paired (fun n p => NodeAt H' n (pairOf tags A B p)) ms ps ∧ CameOk H' kvs tags A B ps ∧ KeysOk kvs tags A B ps ∧ kvs.length ≤ ps.length + 1 ∧ at_ ≤ ps.length ∧ (∀ (i : Nat) (q : Word), ps[i]? = some q → List.length q ≤ i) ∧ (∃ b, Seen tags A B ps b) ∧ RowOk tags A B ps at_ ∧ m = 1000 - at_,
      ⟨_, _, _, _, _, _, _, _, _, _, 0, kv0, [m0], [[]], rfl, sA, d5, k5, .cons n5 .nil, co0, ko0, kl0, Nat.zero_le _, fun i q hq => ?_, ⟨1, S0⟩, ⟨fun p hp => ?_, fun e => absurd e (by decide)⟩, rfl⟩, ?_⟩
    · cases i with
      | zero =>
        have : [] = q := Option.some.inj hq
        rw [← this]
        exact Nat.le_refl _
      | succ i => simp at hq
    · have : [] = p := Option.some.inj hp
      subst this
      exact S0
    clear S0 d5 k5 n5 co0 ko0 kl0
    rintro m σ H6 ⟨v6, v7, v8, v9, v10, v11, v12, v13, v14, at_, kvs, ms, ps, rfl, sA, dn, hM, hP, co, ko, kl, hle, hln, ⟨b0, Sb⟩, row, rfl⟩
    have hps : ∀ {b : Nat} {ps : List Word}, Seen tags A B ps b → ps.length ≤ 961 := fun {b ps} S => by
      have := pairs_le (n := 30) (m := 30) S.nd fun z hz => by
        obtain ⟨p, _, rfl⟩ := List.mem_map.mp hz
        exact ⟨leads_bound gA lA, leads_bound gB lB⟩
      rw [List.length_map] at this
      exact this
    have hpl := hps Sb
    have hml : ms.length = ps.length := Paired.length hP
    refine ⟨_, rfl, _, rfl, _, _, rfl, .inl (SqL.of hM), _, _, rfl, rfl, _, rfl, ?_⟩
    rw [List.length_map, hml]
    by_cases hlt : at_ < ps.length
    case neg =>
      rw [decide_eq_false (by omega)]
      refine iteF ?_
      exact k _ H6 sA (.inl ⟨rfl, row.2 (by omega)⟩)
    rw [decide_eq_true (by omega)]
    refine iteT ?_
    refine ⟨_, fun σ' H' h => h, ?_⟩
    obtain ⟨p, hpg⟩ : ∃ p, ps[at_]? = some p := ⟨ps[at_], List.getElem?_eq_getElem hlt⟩
    obtain ⟨n2, hng, hn2⟩ := paired_get hP hpg
    have hpm := List.mem_of_getElem? hpg
    have S := row.1 p hpg
    have hpT := S.inT p hpm
    have hpN := S.nn p hpm
    have hsame : make tags A p = make tags B p := (S.all p hpT (S.lt p hpm)).1
    refine ⟨_, rfl, _, rfl, ML, _, _, _, rfl, rfl, SqL.of hM, atI_nat (j := at_) (v := V.ref n2) (by rw [List.getElem?_map, hng]; rfl), n2, _, rfl, SqT.of hn2, rfl, _, _, rfl, _, _, rfl, rfl, ?_⟩
    -- word
    have key : ∀ Q : VK, (∀ c, WordAt H c (make tags A p) → Q (.ref c) H6) → tIf (tTest (tOp (fun x y H Q => y = V.non ∧ Q (V.bl (!decide (x = V.non))) H) (tVar 6) (tC .non))) (tOp (rIxT K) (tOp (rIxL K) (tVar 1) (tVar 6)) (tC (.int 0))) (tOp (rIxT K) (tOp (rIxL K) (tVar 2) (tVar 7)) (tC (.int 0)))
        [some (.ref a), some (.ref f), some (.ref h), some (.ref Cm), some (.ref ML), some (.int (at_ : Int)), some (vW (leads tags A 0 p)), some (vW (leads tags B 0 p)), v8, v9, v10, v11, v12, v13, v14] H6 Q := fun Q kQ => by
      refine ⟨_, rfl, rfl, _, rfl, ?_⟩
      cases hx : leads tags A 0 p with
      | some i =>
        refine iteT ?_
        have hi := leads_lt gA p gA.pos hx
        obtain ⟨vs1, t1, p1, p2, f1, f2, f3, f4, f5, f6⟩ := hF.at (stdOf_get hi)
        refine ⟨_, rfl, _, rfl, _, _, _, _, rfl, rfl, SqL.of (sA _ _ f1), atI_nat f3, _, _, _, _, rfl, rfl, SqT.of (sA _ _ f4), rfl, kQ p1 ?_⟩
        rw [make_lead hx, wordOf_std hi]
        exact f5
      | none =>
        refine iteF ?_
        cases hy : leads tags B 0 p with
        | none =>
          refine absurd ?_ hpN
          unfold pairOf
          rw [hx, hy]
        | some j =>
          have hj := leads_lt gB p gB.pos hy
          obtain ⟨vs1, t1, p1, p2, f1, f2, f3, f4, f5, f6⟩ := hG.at (stdOf_get hj)
          refine ⟨_, rfl, _, rfl, _, _, _, _, rfl, rfl, SqL.of (sA _ _ f1), atI_nat f3, _, _, _, _, rfl, rfl, SqT.of (sA _ _ f4), rfl, kQ p1 ?_⟩
          rw [hsame, make_lead hy, wordOf_std hj]
          exact f5
    refine key _ fun c hc => ?_
    clear key
    have hln0 := hln at_ p hpg
    have ltA : ∀ i, leads tags A 0 p = some i → i < A.length := fun i e => leads_lt gA p gA.pos e
    have ltB : ∀ i, leads tags B 0 p = some i → i < B.length := fun i e => leads_lt gB p gB.pos e
    have hwl : (make tags A p).length ≤ 20000 := by
      have := make_len (tags := tags) (F := A) (wd := p) (n := 10000) fun s hs => by have := wA.len s hs; omega
      omega
    refine ⟨_, rfl, _, _, rfl, SqL.of (Same.word sA ha), ?_⟩
    refine for_it (walk_enumW (K := K) (a := a) (w := tags)) (fun j σ H' => ∃ (v9 v10 v11 v12 v13 v14 : Option V) (kvs : List (NestedKey × V)) (ms : List Addr) (ps : List Word), σ = [some (.ref a), some (.ref f), some (.ref h), some (.ref Cm), some (.ref ML), some (.int (at_ : Int)), some (vW (leads tags A 0 p)), some (vW (leads tags B 0 p)), some (.ref c), v9, v10, v11, v12, v13, v14] ∧ Same H H' ∧ QD.DN P w H' Cm kvs ∧
        H' ML = some (.lst (ms.map V.ref)) ∧ Paired (fun n p => NodeAt H' n (pairOf tags A B p)) ms ps ∧ CameOk H' kvs tags A B ps ∧ KeysOk kvs tags A B ps ∧ kvs.length ≤ ps.length + 1 ∧ (∀ (i : Nat) (q : Word), ps[i]? = some q → List.length q ≤ i) ∧ ps[at_]? = some p ∧ Seen tags A B ps (tags.length * rk tags p + j + 1))
      ⟨_, _, _, _, _, _, kvs, ms, ps, rfl, sA, dn, hM, hP, co, ko, kl, hln, hpg, S⟩ (fun j σ H' _ ⟨_, _, _, _, _, _, _, _, _, _, s', _⟩ => Same.word s' ha) ?_ ?_
    · clear sA dn hM hP co ko kl hln hpg S Sb row hml hng hn2 hpl hlt hle hpm hpN
      rintro j v σ H7 H8 hj ⟨v9, v10, v11, v12, v13, v14, kvs, ms, ps, rfl, sA, dn, hM, hP, co, ko, kl, hln, hpg, S⟩ ⟨tp, t, ht, ntp, rfl, rfl⟩
      have htt := List.mem_of_getElem? ht
      have hpm := List.mem_of_getElem? hpg
      have hix : ixOf tags t = j := by
        have ht2 : tags[j] = t := by
          rw [List.getElem?_eq_getElem hj] at ht
          exact Option.some.inj ht
        unfold ixOf
        rw [← ht2]
        exact idxOf_nodup to.nd hj
      have hrk : rk tags (p ++ [t]) = tags.length * rk tags p + j + 1 := by rw [rk_snoc, hix]
      have hptT : ∀ s ∈ p ++ [t], s ∈ tags := fun s hs => by
        rcases List.mem_append.mp hs with q | q
        · exact hpT s q
        · rw [List.mem_singleton.mp q]
          exact htt
      have hpl := hps S
      have hml : ms.length = ps.length := Paired.length hP
      have hlt : at_ < ps.length := by
        rcases Nat.lt_or_ge at_ ps.length with q | q
        · exact q
        · rw [List.getElem?_eq_none q] at hpg
          cases hpg
      obtain ⟨n2, hng, hn2⟩ := paired_get hP hpg
      have hpN := S.nn p hpm
      have dnne : ∀ {Hx : Hp}, QD.DN P w Hx Cm kvs → Hx Cm ≠ none := fun {Hx} d => by
        obtain ⟨_, xs, e, _⟩ := d
        rw [e]
        exact fun z => nomatch z
      have dnS : ∀ {Hx Hy : Hp}, QD.DN P w Hx Cm kvs → Same Hx Hy → QD.DN P w Hy Cm kvs := fun {Hx Hy} d s => d.to (fun b xs e => s _ _ e) (by
        obtain ⟨_, xs, e, _⟩ := d
        rw [s _ _ e, e])
      have sT := same_new (o := .tup [V.int (j : Nat), V.str t]) ntp
      refine ⟨tp, _, rfl, SqT.of upd_same, rfl, _, _, rfl, _, _, rfl, rfl, ?_⟩
      generalize upd H7 tp (.tup [V.int (j : Nat), V.str t]) = H9 at sT ⊢
      -- the left one
      have s9 := sA.trans sT
      refine ⟨_, rfl, _, rfl, _, rfl, _, rfl, _, rfl, by show 1 ≤ sizeLine; decide, fun c1 hc1 => ?_⟩
      have z1 := same_new (o := .lst [V.str t]) hc1
      refine ⟨_, _, _, _, rfl, rfl, Same.word (s9.trans z1) hc, upd_same, by rw [vS_len]; exact sz_le (by show (make tags A p).length + 1 ≤ _; omega), fun c2 hc2 => ?_⟩
      have z2 := Same.new z1 (o := .lst (vS (make tags A p) ++ [V.str t])) hc2
      have w2 : WordAt (upd (upd H9 c1 (.lst [V.str t])) c2 (.lst (vS (make tags A p) ++ [V.str t]))) c2 (make tags A p ++ [t]) := by
        unfold WordAt
        rw [upd_same, ← vS_append]
        rfl
      generalize upd (upd H9 c1 (.lst [V.str t])) c2 (.lst (vS (make tags A p) ++ [V.str t])) = H10 at z2 w2 ⊢
      have s10 := s9.trans z2
      refine ⟨f, c2, tags, A, leads tags A 0 p, j, t, _, rfl, Same.form s10 hF, gA, ltA, to.nd, ht, w2, fun q1 c3 H11 s11 hq1 hc3 => ?_⟩
      rw [aft_made gA] at hc3
      rw [aft_lead gA] at hq1
      refine ⟨q1, _, rfl, SqT.of hq1, rfl, _, _, rfl, _, _, rfl, rfl, ?_⟩
      have s1011 := s11
      have s11 := s10.trans s11
      -- the right one
      refine ⟨_, rfl, _, rfl, _, rfl, _, rfl, _, rfl, by show 1 ≤ sizeLine; decide, fun c4 hc4 => ?_⟩
      have z4 := same_new (o := .lst [V.str t]) hc4
      refine ⟨_, _, _, _, rfl, rfl, Same.word (s11.trans z4) hc, upd_same, by rw [vS_len]; exact sz_le (by show (make tags A p).length + 1 ≤ _; omega), fun c5 hc5 => ?_⟩
      have z5 := Same.new z4 (o := .lst (vS (make tags A p) ++ [V.str t])) hc5
      have w5 : WordAt (upd (upd H11 c4 (.lst [V.str t])) c5 (.lst (vS (make tags A p) ++ [V.str t]))) c5 (make tags B p ++ [t]) := by
        unfold WordAt
        rw [upd_same, ← hsame, ← vS_append]
        rfl
      generalize upd (upd H11 c4 (.lst [V.str t])) c5 (.lst (vS (make tags A p) ++ [V.str t])) = H12 at z5 w5 ⊢
      have s12 := s11.trans z5
      refine ⟨h, c5, tags, B, leads tags B 0 p, j, t, _, rfl, Same.form s12 hG, gB, ltB, to.nd, ht, w5, fun q2 c6 H13 s13 hq2 hc6 => ?_⟩
      rw [aft_made gB] at hc6
      rw [aft_lead gB] at hq2
      refine ⟨q2, _, rfl, SqT.of hq2, rfl, _, _, rfl, _, _, rfl, rfl, ?_⟩
      have hc3 := Same.word (z5.trans s13) hc3
      have s79 : Same H7 H13 := ((sT.trans z2).trans s1011).trans (z5.trans s13)
      have s13 := s12.trans s13
      have dn13 := dnS dn s79
      have hM13 := s79 _ _ hM
      have hP13 : Paired (fun n p => NodeAt H13 n (pairOf tags A B p)) ms ps := L2.Paired.mapP hP fun _ _ q => s79 _ _ q
      have co13 := co.keep (fun b xs e => s79 _ _ e)
      have hn13 : NodeAt H13 n2 (pairOf tags A B p) := s79 _ _ hn2
      clear dn hM hP co hn2 w2 w5 z1 z2 z4 z5 hc1 hc2 hc4 hc5 hq1 hq2 s9 s10 s11 s12 sT sA s79 ntp
      have oA : OkWord (make tags A (p ++ [t])) := sub_ok to (make_sub wA hptT)
      have oB : OkWord (make tags B (p ++ [t])) := sub_ok to (make_sub wB hptT)
      refine ⟨_, rfl, _, rfl, ne_wd hc3 hc6 oA oB ?_⟩
      refine ⟨_, rfl, ?_⟩
      by_cases he : make tags A (p ++ [t]) = make tags B (p ++ [t])
      case neg =>
        rw [decide_eq_false he]
        refine iteT ?_
        refine ⟨_, rfl, _, rfl, _, rfl, ML, _, _, _, rfl, rfl, SqL.of hM13, atI_nat (j := at_) (v := V.ref n2) (by rw [List.getElem?_map, hng]; rfl), ?_⟩
        refine ⟨Cm, n2, kvs, tags, A, B, ps, p, rfl, dn13, co13, hpm, hn13, by omega, fun z H14 s14 nz hz => ?_⟩
        refine ⟨_, rfl, by show 1 ≤ sizeLine; decide, fun c7 hc7 => ?_⟩
        have z7 := same_new (o := .lst [V.str t]) hc7
        refine ⟨_, _, _, _, rfl, rfl, Same.word z7 hz, upd_same, by rw [vS_len]; exact sz_le (by show List.length p + 1 ≤ _; omega), fun r hr => ?_⟩
        have z8 := Same.new z7 (o := .lst (vS p ++ [V.str t])) hr
        refine k _ _ (s13.trans (s14.trans z8)) (.inr ⟨r, p ++ [t], rfl, (s13.trans (s14.trans z7)).free hr, ?_, hptT, he, fun u hu hd => ?_⟩)
        · unfold WordAt
          rw [upd_same, ← vS_append]
          rfl
        · rcases Nat.lt_or_ge (rk tags u) (rk tags (p ++ [t])) with q | q
          · exact absurd (S.all u hu (by omega)).1 hd
          · exact q
      rw [decide_eq_true he]
      refine iteF ?_
      refine ⟨_, rfl, _, rfl, by show 2 ≤ sizeLine; decide, fun kt hkt => ?_⟩
      have y1 := same_new (o := .tup [vW (leads tags A 0 (p ++ [t])), vW (leads tags B 0 (p ++ [t]))]) hkt
      have nk : NodeAt (upd H13 kt (.tup [vW (leads tags A 0 (p ++ [t])), vW (leads tags B 0 (p ++ [t]))])) kt (pairOf tags A B (p ++ [t])) := upd_same
      generalize upd H13 kt (.tup [vW (leads tags A 0 (p ++ [t])), vW (leads tags B 0 (p ++ [t]))]) = H14 at y1 nk ⊢
      have s14 := s13.trans y1
      have dn14 := dnS dn13 y1
      have hM14 := y1 _ _ hM13
      have hP14 : Paired (fun n p => NodeAt H14 n (pairOf tags A B p)) ms ps := L2.Paired.mapP hP13 fun _ _ q => y1 _ _ q
      have co14 := co13.keep (fun b xs e => y1 _ _ e)
      have hn14 : NodeAt H14 n2 (pairOf tags A B p) := y1 _ _ hn13
      clear y1 hkt dn13 hM13 hP13 co13 hn13 s13 hc3 hc6
      refine ⟨_, rfl, Cm, kt, kvs, pKey (pairOf tags A B (p ++ [t])), rfl, rfl, dn14, nv_node nk, pKey_depth _, _, rfl, ?_⟩
      have hko := ko (pairOf tags A B (p ++ [t]))
      by_cases hk : (valV kvs (pKey (pairOf tags A B (p ++ [t])))).isSome = true
      · have hin := hko.mp hk
        rw [hk]
        refine iteF ?_
        refine ⟨_, _, _, _, _, _, kvs, ms, ps, rfl, s14, dn14, hM14, hP14, co14, ko, kl, hln, hpg, ?_⟩
        exact S.one hptT hrk he hin
      · have hnn : pairOf tags A B (p ++ [t]) ≠ (none, none) := fun e => hk (hko.mpr (.inl e))
        have hni : pairOf tags A B (p ++ [t]) ∉ ps.map (pairOf tags A B) := fun e => hk (hko.mpr (.inr e))
        rw [Bool.eq_false_iff.mpr hk]
        refine iteT ?_
        refine ⟨_, rfl, _, rfl, ML, _, _, _, rfl, rfl, SqL.of hM14, atI_nat (j := at_) (v := V.ref n2) (by rw [List.getElem?_map, hng]; rfl), _, rfl, by show 2 ≤ sizeLine; decide, fun vt hvt => ?_⟩
        have y2 := same_new (o := .tup [V.ref n2, V.str t]) hvt
        have kvt : (upd H14 vt (.tup [V.ref n2, V.str t])) vt = some (.tup [V.ref n2, V.str t]) := upd_same
        generalize upd H14 vt (.tup [V.ref n2, V.str t]) = H15 at y2 kvt ⊢
        refine ⟨_, rfl, _, rfl, _, rfl, by show 2 ≤ sizeLine; decide, fun k2 hk2 => ?_⟩
        have y3 := same_new (o := .tup [vW (leads tags A 0 (p ++ [t])), vW (leads tags B 0 (p ++ [t]))]) hk2
        have nk2 : NodeAt (upd H15 k2 (.tup [vW (leads tags A 0 (p ++ [t])), vW (leads tags B 0 (p ++ [t]))])) k2 (pairOf tags A B (p ++ [t])) := upd_same
        generalize upd H15 k2 (.tup [vW (leads tags A 0 (p ++ [t])), vW (leads tags B 0 (p ++ [t]))]) = H16 at y3 nk2 ⊢
        have y23 := y2.trans y3
        have dn16 := dnS dn14 y23
        refine ⟨Cm, k2, kvs, pKey (pairOf tags A B (p ++ [t])), rfl, rfl, dn16, nv_node nk2, pKey_depth _, sz_lt (by omega), fun H17 o17 dn17 _ => ?_⟩
        have ex : ∃ φ, H16 Cm = some (.ext φ) := by
          obtain ⟨_, xs, e, _⟩ := dn16
          exact ⟨_, e⟩
        obtain ⟨φ, hφ⟩ := ex
        have kp : ∀ {x : Addr} {xs : List V}, H16 x = some (.tup xs) → H17 x = some (.tup xs) := fun {x xs} e => (o17 x (ne_of e hφ (fun z => nomatch z))).trans e
        have hM17 : H17 ML = some (.lst (ms.map V.ref)) := (o17 ML hCML.symm).trans (y23 _ _ hM14)
        have s17 : Same H H17 := fun x u e => (o17 x (ne_of_none e hCm)).trans (y23 _ _ (s14 _ _ e))
        have hP17 : Paired (fun n p => NodeAt H17 n (pairOf tags A B p)) ms ps := L2.Paired.mapP hP14 fun _ _ q => kp (y23 _ _ q)
        have co17 := co14.keep (H' := H17) (fun b xs e => kp (y23 _ _ e))
        have hv17 := kp (y3 _ _ kvt)
        have hn17 : NodeAt H17 n2 (pairOf tags A B p) := kp (y23 _ _ hn14)
        refine ⟨_, rfl, .inl ⟨rfl, _, SqL.of hM17⟩, _, rfl, _, rfl, by show 2 ≤ sizeLine; decide, fun m3 hm3 => ?_⟩
        have y4 := same_new (o := .tup [vW (leads tags A 0 (p ++ [t])), vW (leads tags B 0 (p ++ [t]))]) hm3
        have nm3 : NodeAt (upd H17 m3 (.tup [vW (leads tags A 0 (p ++ [t])), vW (leads tags B 0 (p ++ [t]))])) m3 (pairOf tags A B (p ++ [t])) := upd_same
        generalize upd H17 m3 (.tup [vW (leads tags A 0 (p ++ [t])), vW (leads tags B 0 (p ++ [t]))]) = H18 at y4 nm3 ⊢
        have dn17 : QD.DN P w H17 Cm (putK kvs (pKey (pairOf tags A B (p ++ [t]))) (V.ref vt)) := dn17
        have dn18 : QD.DN P w H18 Cm (putK kvs (pKey (pairOf tags A B (p ++ [t]))) (V.ref vt)) := dn17.to (fun b xs e => y4 _ _ e) (by
          obtain ⟨_, xs, e, _⟩ := dn17
          rw [y4 _ _ e, e])
        have hM18 := y4 _ _ hM17
        refine ⟨ML, _, _, rfl, rfl, hM18, by rw [List.length_map]; exact sz_lt (by omega), ?_⟩
        have kp2 : ∀ {x : Addr} {xs : List V}, H18 x = some (.tup xs) → (upd H18 ML (.lst (ms.map V.ref ++ [V.ref m3]))) x = some (.tup xs) := fun {x xs} e => (upd_ne (ne_of e hM18 (fun z => nomatch z))).trans e
        have hln2 : ∀ (i : Nat) (q : Word), (ps ++ [p ++ [t]])[i]? = some q → List.length q ≤ i := fun i q hq => by
          rcases Nat.lt_or_ge i ps.length with z | z
          · rw [List.getElem?_append_left z] at hq
            exact hln i q hq
          · rw [List.getElem?_append_right z] at hq
            cases hz2 : i - ps.length with
            | zero =>
              rw [hz2] at hq
              have : p ++ [t] = q := Option.some.inj hq
              rw [← this, List.length_append]
              show p.length + 1 ≤ i
              omega
            | succ n =>
              rw [hz2] at hq
              simp at hq
        have hkl : (putK kvs (pKey (pairOf tags A B (p ++ [t]))) (V.ref vt)).length ≤ (ps ++ [p ++ [t]]).length + 1 := by
          have := length_putK kvs (pKey (pairOf tags A B (p ++ [t]))) (V.ref vt)
          rw [List.length_append]
          show _ ≤ ps.length + 1 + 1
          omega
        refine ⟨_, _, _, _, _, _, _, ms ++ [m3], ps ++ [p ++ [t]], rfl, Same.mut (s17.trans y4) hMLH, dn18.to (fun b xs e => kp2 e) (upd_ne hCML), by rw [upd_same, List.map_append]; rfl, ?_, ?_, ko.put, hkl, hln2, by rw [List.getElem?_append_left hlt]; exact hpg, S.add hptT hrk he hnn hni⟩
        · exact Paired.snoc (L2.Paired.mapP hP17 fun _ _ q => kp2 (y4 _ _ q)) (kp2 nm3)
        · exact (co17.put hni hpm hv17 hn17).keep fun b xs e => kp2 (y4 _ _ e)
    · rintro σ H7 ⟨v9, v10, v11, v12, v13, v14, kvs, ms, ps, rfl, sA, dn, hM, hP, co, ko, kl, hln, hpg, S⟩
      have hlt : at_ < ps.length := by
        rcases Nat.lt_or_ge at_ ps.length with q | q
        · exact q
        · rw [List.getElem?_eq_none q] at hpg
          cases hpg
      have hpl := hps S
      refine ⟨_, rfl, _, _, rfl, rfl, ?_⟩
      refine ⟨1000 - (at_ + 1), by omega, _, _, _, _, _, _, _, _, _, at_ + 1, kvs, ms, ps, rfl, sA, dn, hM, hP, co, ko, kl, by omega, hln, ⟨_, S⟩, rowOk_next htp hpg S, rfl⟩
end
end Law
end

section
set_option Elab.async false
set_option linter.all false
set_option maxRecDepth 100000
set_option maxHeartbeats 4000000
namespace Law
open PySem PySem.Spec PyProof.Rows L2 LamX QB QM
section
variable {P : Program} {w : World} {K : PySem.W.Frag} {mg : Str → Option Value} {base : Heap}
def spSameTags (C : Addr) : Sp := fun vs H Q _ => ∃ (e f : Addr) (tags : Word) (G G2 : Form), vs = [.ref e, .ref f] ∧ EatAt C H e tags G ∧ EatAt C H f tags G2 ∧ OkWord tags ∧ ∀ H', Same H H' → Q .non H'
theorem ok_check_same_tags (X : TX K mg) : FnOk P w K mg base CX0 2 X.d_check_same_tags.a X.d_check_same_tags.fd ["one", "other"] (spSameTags X.c_Eater) := by
  have nd := sc_check_same_tags.nd
  refine X.d_check_same_tags.F.ok sc_check_same_tags (fun vs H Q E h => ?_) (fun cdv A outer s H vs Q E hr h => ?_)
  · obtain ⟨e, f, tags, G, G2, rfl, _⟩ := h
    rfl
  · obtain ⟨e, f, tags, G, G2, rfl, he, hf, ok, k⟩ := h
    refine ⟨_, (pss_one (ps_if (PW.pt (pw_or (pt_not (pt_val (pe_callB (QB.call_isiK K) (by rfl) X.n_isinstance QB.bo_isinstance (pa_cons (pv 1) (pa_cons (pe_glob (v := .ref X.c_Eater) rfl X.m_Eater rfl) pa_nil))))) (pw_or1 (pt_cmpR (QB.op_neDK K hr.units) (pe_meth0 (pv 1) X.cl_Eater X.h_Eater_tags (ok_Eater_tags X) (hr.mono (by decide)) X.d_Eater_tags.b .nil pass0) (pe_meth0 (pv 0) X.cl_Eater X.h_Eater_tags (ok_Eater_tags X) (hr.mono (by decide)) X.d_Eater_tags.b .nil pass0) (nomark _))))) (pss_one ps_never) pss_nil)), ?_⟩
    try dsimp only [Cx.nox, Cx.wish, cxOf]
    obtain ⟨dx, a1, b1, g1, g2, g3⟩ := he
    obtain ⟨dx2, a2, b2, f1, f2, f3⟩ := hf
    refine ⟨_, rfl, ?_⟩
    dsimp only [tNil, tCons]
    refine ⟨_, _, _, _, true, rfl, .own _, .base (X.oc_Eater.ty X.cl_Eater f1), QO.OwnC.self, true, rfl, ?_⟩
    refine iteF ?_
    refine ⟨_, rfl, f, dx2, _, rfl, f1, rfl, ?_⟩
    refine ⟨f, tags, G2, rfl, ⟨dx2, a2, b2, f1, f2, f3⟩, fun p1 n1 => ?_⟩
    have s1 := same_new (o := .lst (vS tags)) n1
    have w1 : WordAt (upd H p1 (.lst (vS tags))) p1 tags := upd_same
    generalize upd H p1 (.lst (vS tags)) = H1 at s1 w1 ⊢
    refine ⟨_, rfl, e, dx, _, rfl, s1 _ _ g1, rfl, ?_⟩
    refine ⟨e, tags, G, rfl, ⟨dx, a1, b1, s1 _ _ g1, Same.word s1 g2, Same.form s1 g3⟩, fun p2 n2 => ?_⟩
    have s2 := same_new (o := .lst (vS tags)) n2
    have w2 : WordAt (upd H1 p2 (.lst (vS tags))) p2 tags := upd_same
    refine ne_wd (Same.word s2 w1) w2 ok ok ?_
    refine ⟨_, rfl, ?_⟩
    rw [decide_eq_true rfl]
    exact iteF (k _ (s1.trans s2))
def spPart (C : Addr) : Sp := fun vs H Q _ => ∃ (e f : Addr) (tags : Word) (A B : Form), vs = [.ref e, .ref f] ∧ EatAt C H e tags A ∧ EatAt C H f tags B ∧ Good tags A ∧ Good tags B ∧ WordsOk tags A ∧ WordsOk tags B ∧ TagsOk tags ∧ A.length ≤ 30 ∧ B.length ≤ 30 ∧
  ∀ (v : V) (H' : Hp), Same H H' → PartV tags A B H H' v → Q v H'
theorem ok_parting (X : TX K mg) : FnOk P w K mg base CX0 3 X.d_parting.a X.d_parting.fd ["one", "other"] (spPart X.c_Eater) := by
  have nd := sc_parting.nd
  refine X.d_parting.F.ok sc_parting (fun vs H Q E h => ?_) (fun cdv A0 outer s H vs Q E hr h => ?_)
  · obtain ⟨e, f, tags, A, B, rfl, _⟩ := h
    rfl
  · obtain ⟨e, f, tags, A, B, rfl, he, hf, gA, gB, wA, wB, to, lA, lB, k⟩ := h
    refine ⟨_, (pss_cons (ps_expr (pe_call (ok_check_same_tags X) (hr.mono (by decide)) rfl X.d_check_same_tags.mg X.d_check_same_tags.F.kp X.d_check_same_tags.b .nil pass0 (pa_cons (pv 0) (pa_cons (pv 1) pa_nil)))) (pss_one (ps_ret (pe_call (ok_parting_word X) (hr.mono (by decide)) rfl X.d_parting_word.mg X.d_parting_word.F.kp X.d_parting_word.b .nil pass0 (pa_cons (pe_meth0 (pv 0) X.cl_Eater X.h_Eater_tags (ok_Eater_tags X) (hr.mono (by decide)) X.d_Eater_tags.b .nil pass0) (pa_cons (pe_meth0 (pv 0) X.cl_Eater X.h_Eater_standings (ok_Eater_standings X) (hr.mono (by decide)) X.d_Eater_standings.b .nil pass0) (pa_cons (pe_meth0 (pv 1) X.cl_Eater X.h_Eater_standings (ok_Eater_standings X) (hr.mono (by decide)) X.d_Eater_standings.b .nil pass0) pa_nil))))))), ?_⟩
    try dsimp only [Cx.nox, Cx.wish, cxOf]
    refine ⟨_, rfl, _, rfl, e, f, tags, A, B, rfl, he, hf, to.ok, fun H1 s1 => ?_⟩
    have he1 := he.same s1
    have hf1 := hf.same s1
    obtain ⟨dx, _, _, ie, _⟩ := he1
    obtain ⟨dx2, _, _, jf, _⟩ := hf1
    have he1 := he.same s1
    have hf1 := hf.same s1
    refine ⟨_, rfl, e, dx, _, rfl, ie, rfl, e, tags, A, rfl, he1, fun p1 n1 => ?_⟩
    have s2 := same_new (o := .lst (vS tags)) n1
    have w2 : WordAt (upd H1 p1 (.lst (vS tags))) p1 tags := upd_same
    generalize upd H1 p1 (.lst (vS tags)) = H2 at s2 w2 ⊢
    refine ⟨_, rfl, e, dx, _, rfl, s2 _ _ ie, rfl, e, tags, A, rfl, he1.same s2, by omega, fun p3 L3 H3 s3 n3 => ?_⟩
    refine ⟨_, rfl, f, dx2, _, rfl, (s2.trans s3) _ _ jf, rfl, f, tags, B, rfl, (hf1.same s2).same s3, by omega, fun p4 L4 H4 s4 n4 => ?_⟩
    have s14 := s1.trans (s2.trans (s3.trans s4))
    refine ⟨p1, p3, p4, tags, A, B, rfl, Same.word (s3.trans s4) w2, Same.form s4 n3.form, n4.form, gA, gB, wA, wB, to, lA, lB, fun v H5 s5 hv => ?_⟩
    refine k v H5 (s14.trans s5) ?_
    rcases hv with hv | ⟨z, wd, h1, h2, h3⟩
    · exact .inl hv
    · exact .inr ⟨z, wd, h1, s14.free h2, h3⟩
end
end Law
end

section
set_option Elab.async false
set_option linter.all false
set_option maxRecDepth 100000
set_option maxHeartbeats 4000000
namespace Law
open PySem PySem.Spec PyProof.Rows L2 LamX QB QM
theorem tags_inc {tags : Word} (nd : tags.Nodup) : tags.Pairwise fun t s => ixOf tags t < ixOf tags s := by
  rw [List.pairwise_iff_getElem]
  intro i j hi hj hij
  unfold ixOf
  rw [idxOf_nodup nd hi, idxOf_nodup nd hj]
  exact hij
theorem lastW_inc {tags : Word} (nd : tags.Nodup) : ∀ n, (lastW tags n).Pairwise fun u v => rk tags u < rk tags v
  | 0 => by simp [lastW]
  | n + 1 => by
    unfold lastW
    rw [List.pairwise_flatMap]
    refine ⟨fun u hu => ?_, List.Pairwise.imp_of_mem (fun {u v} hu hv huv => ?_) (lastW_inc nd n)⟩
    · rw [List.pairwise_map]
      refine (tags_inc nd).imp fun {t s} h => ?_
      rw [rk_snoc, rk_snoc]
      omega
    · intro x hx y hy
      obtain ⟨t, ht, rfl⟩ := List.mem_map.mp hx
      obtain ⟨s, hs, rfl⟩ := List.mem_map.mp hy
      exact rk_lt huv ht
theorem allW_inc {tags : Word} (nd : tags.Nodup) : ∀ n, (allW tags n).Pairwise fun u v => rk tags u < rk tags v
  | 0 => by simp [allW]
  | n + 1 => by
    unfold allW
    rw [List.pairwise_append]
    refine ⟨allW_inc nd n, lastW_inc nd (n + 1), fun u hu v hv => ?_⟩
    obtain ⟨h1, h2⟩ := (allW_mem n u).mp hu
    obtain ⟨h3, h4⟩ := (lastW_mem (n + 1) v).mp hv
    exact rk_len u.length u v rfl h1 (by omega)
section
variable {P : Program} {w : World} {K : PySem.W.Frag} {mg : Str → Option Value} {base : Heap}
def LeastV (tags : Word) (A B : Form) (most : Nat) (H' : Hp) (v : V) : Prop := (v = .non ∧ ∀ u ∈ allW tags most, make tags A u = make tags B u) ∨
  ∃ (z : Addr) (wd : Word), v = .ref z ∧ WordAt H' z wd ∧ wd ∈ allW tags most ∧ make tags A wd ≠ make tags B wd ∧ ∀ u ∈ allW tags most, make tags A u ≠ make tags B u → rk tags wd ≤ rk tags u
def spLeastP : Sp := fun vs H Q _ => ∃ (a f g : Addr) (tags : Word) (A B : Form) (most : Nat), vs = [.ref a, .ref f, .ref g, .int (most : Int)] ∧ WordAt H a tags ∧ FormAt H f A ∧ FormAt H g B ∧ Good tags A ∧ Good tags B ∧ WordsOk tags A ∧ WordsOk tags B ∧ TagsOk tags ∧ most ≤ 12 ∧
  (∀ i, i ≤ most → (lastW tags i).length ≤ 20000 ∧ (allW tags i).length ≤ 60000) ∧ ∀ (v : V) (H' : Hp), Same H H' → LeastV tags A B most H' v → Q v H'
theorem ok__law_least_parting (X : TX K mg) : FnOk P w K mg base CX0 4 X.d__law_least_parting.a X.d__law_least_parting.fd ["tags", "one", "other", "most"] spLeastP := by
  have nd := sc__law_least_parting.nd
  refine X.d__law_least_parting.F.ok sc__law_least_parting (fun vs H Q E h => ?_) (fun cdv A0 outer s H vs Q E hr h => ?_)
  · obtain ⟨a, f, g, tags, A, B, most, rfl, _⟩ := h
    rfl
  · obtain ⟨a, f, g, tags, A, B, most, rfl, ha, hF, hG, gA, gB, wA, wB, to, hm, hB, k⟩ := h
    refine ⟨_, (pss_cons (ps_for PassesOwn.never rfl (QB.pi_listK K (pe_call (ok__law_words X) (hr.mono (by decide)) rfl X.d__law_words.mg X.d__law_words.F.kp X.d__law_words.b .nil pass0 (pa_cons (pv 0) (pa_cons (pv 3) pa_nil)))) (pg_name (i := 4) nd rfl (Or.inl rfl)) (pss_one (ps_if (pt_cmpR (QB.op_neDK K hr.units) (pe_call (ok__law_made X) (hr.mono (by decide)) rfl X.d__law_made.mg X.d__law_made.F.kp X.d__law_made.b .nil pass0 (pa_cons (pv 0) (pa_cons (pv 1) (pa_cons (pv 4) pa_nil)))) (pe_call (ok__law_made X) (hr.mono (by decide)) rfl X.d__law_made.mg X.d__law_made.F.kp X.d__law_made.b .nil pass0 (pa_cons (pv 0) (pa_cons (pv 2) (pa_cons (pv 4) pa_nil)))) (nomark _)) (pss_one (ps_ret (pv 4))) pss_nil))) (pss_one (ps_ret pe_non))), ?_⟩
    try dsimp only [Cx.nox, Cx.wish, cxOf]
    have htl := to.len
    refine ⟨_, rfl, _, rfl, a, tags, most, rfl, ha, hB, htl, hm, fun E ts H1 s1 nE hE hts => ?_⟩
    have inc := allW_inc to.nd most
    have hWm := fun u => allW_mem (tags := tags) most u
    have kk : ∀ (v : V) (H' : Hp), Same H H' → LeastV tags A B most H' v → Q v H' := k
    unfold LeastV at kk
    generalize allW tags most = W at hts inc hWm kk
    have htsl : ts.length = W.length := Paired.length hts
    have wLA : ∀ s ∈ A, s.1.length ≤ 10000 := fun s hs => by have := wA.len s hs; omega
    have wLB : ∀ s ∈ B, s.1.length ≤ 10000 := fun s hs => by have := wB.len s hs; omega
    refine ⟨_, rfl, ⟨_, SqL.of hE⟩, ?_⟩
    refine for_it (walk_list (K := K) (a := E) (xs := ts.map V.ref)) (fun j σ H' => ∃ v4 : Option V, σ = [some (.ref a), some (.ref f), some (.ref g), some (.int (most : Int)), v4] ∧ Same H1 H' ∧ ∀ i u, i < j → W[i]? = some u → make tags A u = make tags B u)
      ⟨_, rfl, Same.refl _, fun i u h => by omega⟩ (fun j σ H' _ ⟨_, _, s', _⟩ => SqL.of (s' _ _ hE)) ?_ ?_
    · rintro j x σ H2 H3 hj ⟨v4, rfl, s2, hno⟩ ⟨rfl, hx⟩
      have hx : (ts.map V.ref)[j]? = some x := hx
      rw [List.getElem?_map] at hx
      cases hc : ts[j]? with
      | none =>
        rw [hc] at hx
        cases hx
      | some c =>
        rw [hc] at hx
        cases hx
        obtain ⟨u, hug, hu⟩ := paired_get' hts hc
        obtain ⟨hui, hul⟩ := (hWm u).mp (List.mem_of_getElem? hug)
        have s12 := s1.trans s2
        refine ⟨_, rfl, _, rfl, _, rfl, a, f, c, tags, A, u, rfl, Same.word s12 ha, Same.form s12 hF, Same.word s2 hu, gA, hui, by omega, wLA, fun z1 H4 s4 n4 h4 => ?_⟩
        refine ⟨_, rfl, _, rfl, _, rfl, a, g, c, tags, B, u, rfl, Same.word (s12.trans s4) ha, Same.form (s12.trans s4) hG, Same.word (s2.trans s4) hu, gB, hui, by omega, wLB, fun z2 H5 s5 n5 h5 => ?_⟩
        have oA : OkWord (make tags A u) := sub_ok to (make_sub wA hui)
        have oB : OkWord (make tags B u) := sub_ok to (make_sub wB hui)
        refine ne_wd (s5 _ _ h4) h5 oA oB ?_
        refine ⟨_, rfl, ?_⟩
        have s25 := s2.trans (s4.trans s5)
        by_cases he : make tags A u = make tags B u
        · rw [decide_eq_true he]
          refine iteF ⟨_, rfl, s25, fun i u' hi hg => ?_⟩
          rcases Nat.lt_or_ge i j with q | q
          · exact hno i u' q hg
          · have : i = j := by omega
            subst this
            rw [hug] at hg
            cases hg
            exact he
        · rw [decide_eq_false he]
          refine iteT ?_
          refine ⟨_, rfl, kk _ _ (s1.trans s25) (.inr ⟨c, u, rfl, Same.word s25 hu, List.mem_of_getElem? hug, he, fun u' hu' hd => ?_⟩)⟩
          obtain ⟨i, hi, e⟩ := List.mem_iff_getElem.mp hu'
          have hjl : j < W.length := by
            rcases Nat.lt_or_ge j W.length with q | q
            · exact q
            · rw [List.getElem?_eq_none q] at hug
              cases hug
          have hje : W[j] = u := by
            rw [List.getElem?_eq_getElem hjl] at hug
            exact Option.some.inj hug
          rcases Nat.lt_trichotomy i j with q | q | q
          · exact absurd (hno i u' q (by rw [List.getElem?_eq_getElem hi, e])) hd
          · subst q
            rw [← e, hje]
            exact Nat.le_refl _
          · have := List.pairwise_iff_getElem.mp inc j i hjl hi q
            rw [hje, e] at this
            omega
    · rintro σ H2 ⟨v4, rfl, s2, hno⟩
      refine kk _ H2 (s1.trans s2) (.inl ⟨rfl, fun u hu => ?_⟩)
      obtain ⟨i, hi, e⟩ := List.mem_iff_getElem.mp hu
      exact hno i u (by rw [List.length_map, htsl]; exact hi) (by rw [List.getElem?_eq_getElem hi, e])
end
end Law
end

section
set_option Elab.async false
set_option linter.all false
set_option maxRecDepth 100000
set_option maxHeartbeats 4000000
namespace Law
open PySem PySem.Spec PyProof.Rows L2 LamX QB QM
/-- both ways of looking for a parted word tell the same -/
theorem part_eq {tags : Word} {F G : Form} {n N : Nat} {H H' H2 : Hp} {v v2 : V} (to : TagsOk tags) (gF : Good tags F) (gG : Good tags G) (lF : (least tags F).length ≤ n) (lG : (least tags G).length ≤ n) (hn : 1 ≤ n) (hn2 : n ≤ 1000) (hN : 3 * n ≤ N)
    (h1 : PartV tags (least tags F) (least tags G) H H' v) (h2 : LeastV tags F G N H2 v2) :
    (v = .non ∧ v2 = .non ∧ least tags F = least tags G) ∨ ∃ z z2 wd, v = .ref z ∧ v2 = .ref z2 ∧ H z = none ∧ WordAt H' z wd ∧ WordAt H2 z2 wd ∧ (∀ t ∈ wd, t ∈ tags) ∧ least tags F ≠ least tags G := by
  have eF : ∀ u : Word, (∀ t ∈ u, t ∈ tags) → make tags (least tags F) u = make tags F u := fun u hu => least_make gF hu
  have eG : ∀ u : Word, (∀ t ∈ u, t ∈ tags) → make tags (least tags G) u = make tags G u := fun u hu => least_make gG hu
  rcases h1 with ⟨rfl, hall⟩ | ⟨z, wd, rfl, hz, hw, hin, hd, hmin⟩
  · have same : least tags F = least tags G := least_same gF gG to.nd fun r hr => by
      rw [← eF r hr, ← eG r hr]
      exact hall r hr
    rcases h2 with ⟨rfl, _⟩ | ⟨z2, wd2, _, _, hm2, hd2, _⟩
    · exact .inl ⟨rfl, rfl, same⟩
    · obtain ⟨q1, _⟩ := (allW_mem N wd2).mp hm2
      refine absurd ?_ hd2
      rw [← eF wd2 q1, ← eG wd2 q1, same]
  · have ne : least tags F ≠ least tags G := fun e => hd (by rw [e])
    have hshort : ¬ ∀ u ∈ allW tags N, make tags F u = make tags G u := fun hall => by
      refine hd (same_short gF gG to.nd lF lG hn hn2 hN (fun r hr hl => ?_) wd)
      rw [eF r hr, eG r hr]
      exact hall r ((allW_mem N r).mpr ⟨hr, hl⟩)
    rcases h2 with ⟨_, hall⟩ | ⟨z2, wd2, rfl, hw2, hm2, hd2, hmin2⟩
    · exact absurd hall hshort
    · obtain ⟨q1, q2⟩ := (allW_mem N wd2).mp hm2
      have r1 : rk tags wd ≤ rk tags wd2 := hmin wd2 q1 (by rw [eF wd2 q1, eG wd2 q1]; exact hd2)
      have hwl : wd.length ≤ N := by
        rcases Nat.lt_or_ge N wd.length with q | q
        · have := rk_len wd2.length wd2 wd rfl q1 (by omega)
          omega
        · exact q
      have r2 : rk tags wd2 ≤ rk tags wd := hmin2 wd ((allW_mem N wd).mpr ⟨hin, hwl⟩) (by rw [← eF wd hin, ← eG wd hin]; exact hd)
      have e : wd2 = wd := rk_inj _ wd2 wd (Nat.le_refl _) q1 hin (by omega)
      subst e
      exact .inr ⟨z, z2, wd2, rfl, rfl, hz, hw, hw2, hin, ne⟩
theorem lastW_pow {tags : Word} : ∀ n, (lastW tags n).length = tags.length ^ n
  | 0 => rfl
  | n + 1 => by
    unfold lastW
    rw [flat_len (k := tags.length) _ fun x _ => List.length_map _, lastW_pow n, Nat.pow_succ]
theorem allW_bound {tags : Word} {N B : Nat} (hB : ∀ i, i ≤ N → tags.length ^ i ≤ B) : ∀ n, n ≤ N → (allW tags n).length ≤ (n + 1) * B
  | 0, h => by
    have := hB 0 h
    show 1 ≤ (0 + 1) * B
    have h1 : tags.length ^ 0 = 1 := rfl
    omega
  | n + 1, h => by
    unfold allW
    have h1 := allW_bound hB n (by omega)
    have h2 := hB (n + 1) h
    rw [List.length_append, lastW_pow, Nat.add_mul (n + 1) 1 B]
    omega
/-- as many words as the law goes through -/
theorem words_bound {tags : Word} {N : Nat} (h : tags.length = 1 ∧ N = 12 ∨ tags.length = 2 ∧ N = 9 ∨ tags.length = 3 ∧ N = 6) : ∀ i, i ≤ N → (lastW tags i).length ≤ 20000 ∧ (allW tags i).length ≤ 60000 := by
  have hb : ∀ i, i ≤ N → tags.length ^ i ≤ 729 := fun i hi => by
    rcases h with ⟨e, rfl⟩ | ⟨e, rfl⟩ | ⟨e, rfl⟩
    · rw [e, Nat.one_pow]
      decide
    · rw [e]
      exact Nat.le_trans (Nat.pow_le_pow_right (by decide) hi) (by decide)
    · rw [e]
      exact Nat.le_trans (Nat.pow_le_pow_right (by decide) hi) (by decide)
  intro i hi
  have h1 := hb i hi
  have h2 := allW_bound hb i hi
  have hN : N ≤ 12 := by
    rcases h with ⟨_, rfl⟩ | ⟨_, rfl⟩ | ⟨_, rfl⟩ <;> decide
  have h3 : (i + 1) * 729 ≤ 13 * 729 := Nat.mul_le_mul_right _ (by omega)
  rw [lastW_pow]
  omega
end Law
end

section
set_option Elab.async false
set_option linter.all false
set_option maxRecDepth 100000
set_option maxHeartbeats 4000000
namespace Law
open PySem PySem.Spec PyProof.Rows L2 LamX QB QM
/-- a form that stays while the pile changes -/
def FmP (p : Addr) (H : Hp) (f : Addr) (F : Form) : Prop := ∃ Hb L, PileAt Hb p ∧ NewF Hb H f L F
theorem FmP.ext {T : List (Addr × Str)} {p f : Addr} {H H' : Hp} {F : Form} (h : FmP p H f F) (x : QB.Ext T H H') : FmP p H' f F := by
  obtain ⟨Hb, L, h1, h2⟩ := h
  exact ⟨Hb, L, h1, h2.ext x⟩
theorem FmP.same {p f : Addr} {H H' : Hp} {F : Form} (h : FmP p H f F) (x : Same H H') : FmP p H' f F := h.ext (T := []) (.of x)
theorem FmP.exc {p f : Addr} {H H' : Hp} {F : Form} (h : FmP p H f F) (x : Exc [p] H H') : FmP p H' f F := by
  obtain ⟨Hb, L, h1, h2⟩ := h
  exact ⟨Hb, L, h1, pg_form h2 x h1⟩
theorem FmP.form {p f : Addr} {H : Hp} {F : Form} (h : FmP p H f F) : FormAt H f F := by
  obtain ⟨Hb, L, h1, h2⟩ := h
  exact h2.form
/-- an eater that stays while the pile changes -/
def EtP (C p : Addr) (H : Hp) (e : Addr) (tags : Word) (G : Form) : Prop := ∃ Hc dx a b M, PileAt Hc p ∧ EatN C Hc H e dx a b M tags G
theorem EtP.ext {T : List (Addr × Str)} {C p e : Addr} {H H' : Hp} {tags : Word} {G : Form} (h : EtP C p H e tags G) (x : QB.Ext T H H') : EtP C p H' e tags G := by
  obtain ⟨Hc, dx, a, b, M, h1, h2⟩ := h
  exact ⟨Hc, dx, a, b, M, h1, h2.ext x⟩
theorem EtP.exc {C p e : Addr} {H H' : Hp} {tags : Word} {G : Form} (h : EtP C p H e tags G) (x : Exc [p] H H') : EtP C p H' e tags G := by
  obtain ⟨Hc, dx, a, b, M, h1, h2⟩ := h
  exact ⟨Hc, dx, a, b, M, h1, pg_eat h2 x h1⟩
theorem EtP.at_ {C p e : Addr} {H : Hp} {tags : Word} {G : Form} (h : EtP C p H e tags G) : EatAt C H e tags G := by
  obtain ⟨Hc, dx, a, b, M, h1, h2⟩ := h
  exact h2.at_
theorem formOk_set {tags : Word} {F : Form} {k : Nat} {s : Std} (fo : FormOk tags F) (h : StdOk tags F.length s) : FormOk tags (F.set k s) := by
  refine ⟨by rw [List.length_set]; exact fo.pos, by rw [List.length_set]; exact fo.len, fun z hz => ?_⟩
  rw [List.length_set]
  rcases List.mem_or_eq_of_mem_set hz with h' | h'
  · exact fo.all z h'
  · rw [h']
    exact h
theorem ixN_nat {n k : Nat} (h : k < n) : ixN n (k : Int) = some k := by
  unfold ixN
  rw [if_pos (by omega), if_pos (by omega)]
  rfl
section
variable {P : Program} {w : World} {K : PySem.W.Frag} {mg : Str → Option Value} {base : Heap}
def spNear : Sp := fun vs H Q _ => ∃ (p a b : Addr) (tags : Word) (F : Form), vs = [.ref p, .ref a, .ref b] ∧ PileAt H p ∧ WordAt H a tags ∧ TagsOk tags ∧ FmP p H b F ∧ FormOk tags F ∧ (∀ s ∈ F, s.1.length ≤ 7) ∧
  ∀ (G : Form) (L : List Tri) (q : Addr) (H' : Hp), FormOk tags G → G.length = F.length → Exc [p] H H' → PileAt H' p → NewF H H' q L G → Q (.ref q) H'
theorem ok__law_near (X : TX K mg) : FnOk P w K mg base CX0 4 X.d__law_near.a X.d__law_near.fd ["pile", "tags", "standings"] spNear := by
  have nd := sc__law_near.nd
  refine X.d__law_near.F.ok sc__law_near (fun vs H Q E h => ?_) (fun cdv A0 outer s H vs Q E hr h => ?_)
  · obtain ⟨p, a, b, tags, F, rfl, _⟩ := h
    rfl
  · obtain ⟨p, a, b, tags, F, rfl, hp, ha, to, hF, fo, h7, q⟩ := h
    refine ⟨_, (pss_cons (ps_set (i := 3) nd rfl (Or.inl rfl) (pe_call (ok__law_copy X) (hr.mono (by decide)) rfl X.d__law_copy.mg X.d__law_copy.F.kp X.d__law_copy.b .nil pass0 (pa_cons (pv 2) pa_nil))) (pss_cons (ps_set (i := 4) nd rfl (Or.inl rfl) (pe_call (ok__law_take X) (hr.mono (by decide)) rfl X.d__law_take.mg X.d__law_take.F.kp X.d__law_take.b .nil pass0 (pa_cons (pv 0) (pa_cons (pe_callB (QB.call_lenK K) (by rfl) X.n_len PySem.boot_len (pa_cons (pv 3) pa_nil)) pa_nil)))) (pss_cons (ps_asg (pe_ix (QB.ix_listK K) (pv 3) (pv 4) (fun _ _ => rfl)) (pg_tup (by rfl) (pgs_cons (pg_name (i := 5) nd rfl (Or.inl rfl)) (pgs_cons (pg_name (i := 6) nd rfl (Or.inl rfl)) (pgs_nil))))) (pss_cons (ps_set (i := 7) nd rfl (Or.inl rfl) (pe_call (ok__law_take X) (hr.mono (by decide)) rfl X.d__law_take.mg X.d__law_take.F.kp X.d__law_take.b .nil pass0 (pa_cons (pv 0) (pa_cons pe_int pa_nil)))) (pss_cons (ps_set (i := 8) nd rfl (Or.inl rfl) (pe_call (ok__law_take X) (hr.mono (by decide)) rfl X.d__law_take.mg X.d__law_take.F.kp X.d__law_take.b .nil pass0 (pa_cons (pv 0) (pa_cons (pe_callB (QB.call_lenK K) (by rfl) X.n_len PySem.boot_len (pa_cons (pv 1) pa_nil)) pa_nil)))) (pss_cons (ps_if (pt_cmpR op_eq (pv 7) pe_int (nomark _)) (pss_one (ps_asg (pe_tup (pa_cons (pe_slice (QB.sl_listK K) (pv 5) (po_some pe_int) po_none) (pa_cons (pv 6) pa_nil))) (pg_sub (pv 3) (pv 4) set_list))) pss_nil) (pss_cons (ps_if (pt_cmpR op_eq (pv 7) pe_int (nomark _)) (pss_one (ps_asg (pe_ix (QB.ix_listK K) (pe_lst (pa_cons pe_non (pa_cons (pe_call (ok__law_take X) (hr.mono (by decide)) rfl X.d__law_take.mg X.d__law_take.F.kp X.d__law_take.b .nil pass0 (pa_cons (pv 0) (pa_cons (pe_callB (QB.call_lenK K) (by rfl) X.n_len PySem.boot_len (pa_cons (pv 3) pa_nil)) pa_nil))) pa_nil))) (pe_call (ok__law_take X) (hr.mono (by decide)) rfl X.d__law_take.mg X.d__law_take.F.kp X.d__law_take.b .nil pass0 (pa_cons (pv 0) (pa_cons pe_int pa_nil))) (fun _ _ => rfl)) (pg_sub (pv 6) (pv 8) set_list))) pss_nil) (pss_cons (ps_if (pt_cmpR op_eq (pv 7) pe_int (nomark _)) (pss_one (ps_asg (pe_tup (pa_cons (pe_op op_cat (pv 5) (pe_lst (pa_cons (pe_ix (QB.ix_listK K) (pv 1) (pv 8) (fun _ _ => rfl)) pa_nil))) (pa_cons (pv 6) pa_nil))) (pg_sub (pv 3) (pv 4) set_list))) pss_nil) (pss_one (ps_ret (pv 3))))))))))), ?_⟩
    try dsimp only [Cx.nox, Cx.wish, cxOf]
    have htl := to.len
    have htp := to.pos
    have fl := fo.len
    have fp := fo.pos
    refine ⟨_, rfl, b, F, rfl, hF.form, by omega, fun D L H1 s1 n1 => ?_⟩
    have p1 := hp.same s1
    refine ⟨_, rfl, _, rfl, _, _, rfl, .inl (SqL.of n1.lst), ?_⟩
    refine ⟨p, F.length, by rw [List.length_map, n1.all.len]; rfl, by omega, by omega, p1, fun r H2 hr x2 p2 => ?_⟩
    have n2 := pg_form n1 x2 hp
    have es := stdOf_get (F := F) (k := r) hr
    obtain ⟨x, hx, g1, g2, g3⟩ := n2.all.get es
    have sok := fo.all _ (mem_of es)
    have s7 := h7 _ (mem_of es)
    generalize stdOf F r = s at g2 g3 sok es s7
    refine ⟨_, rfl, _, rfl, D, _, _, _, rfl, rfl, SqL.of n2.lst, atI_nat (by rw [List.getElem?_map, hx]; rfl), ?_⟩
    refine ⟨x.1, _, rfl, SqT.of g1, rfl, _, _, rfl, _, _, rfl, rfl, ?_⟩
    refine ⟨_, rfl, p, 3, rfl, by decide, by decide, p2, fun r3 H3 hr3 x3 p3 => ?_⟩
    have x13 := (Exc.of (M := [p]) s1).trans (x2.trans x3)
    refine ⟨_, rfl, _, rfl, _, _, rfl, .inl (SqL.of (pg_word x13 hp ha)), ?_⟩
    refine ⟨p, tags.length, by rw [vS_len]; rfl, by omega, by omega, p3, fun r4 H4 hr4 x4 p4 => ?_⟩
    have n4 := pg_form (pg_form n2 x3 hp) x4 hp
    have x14 := x13.trans x4
    have ha4 := pg_word x14 hp ha
    have hD0 : H D = none := by
      cases e : H D with
      | none => rfl
      | some o =>
        have h1 := s1 _ _ e
        rw [n1.lst] at h1
        obtain ⟨ps, z⟩ := n1.new _ e
        rw [z] at h1
        cases h1
    have hW0 : H x.2.2 = none := by
      have hm := (n1.all.new x (List.mem_of_getElem? hx)).2.2
      obtain ⟨_, h1, _, _, g3⟩ := n1.all.get es
      rw [hx] at h1
      cases h1
      cases e : H x.2.2 with
      | none => rfl
      | some o =>
        have h1 := s1 _ _ e
        unfold WaysAt at g3
        rw [g3] at h1
        obtain ⟨ps, z⟩ := hm _ e
        rw [z] at h1
        cases h1
    clear n1 n2 g1 g2 g3 x13 x2 x3 x4 p1 p2 p3 s1 ha
    obtain ⟨x', hx', g1, g2, g3⟩ := n4.all.get es
    rw [hx] at hx'
    cases hx'
    have fin : ∀ (G : Form) (L' : List Tri) (H' : Hp), FormOk tags G → G.length = F.length → Exc [p] H H' → PileAt H' p → NewL H H' L' G → H' D = some (.lst (L'.map fun x => V.ref x.1)) → D ∉ inner L' → Q (.ref D) H' := fun G L' H' h1 h2 h3 h4 h5 h6 h7 => q G L' D H' h1 h2 h3 h4 (.mk' h5 h6 n4.new h7)
    have hDp : D ≠ p := fun e => by
      obtain ⟨d, c, n, h⟩ := p4
      have := n4.lst
      rw [e, h] at this
      have this := HO.lst.inj (Option.some.inj this)
      cases L with
      | nil => cases this
      | cons y L => cases (List.cons.inj this).1
    -- the word is written anew
    have wr : ∀ (w' : Word) (H5 : Hp) (q1 q4 : Addr), Same H4 H5 → H4 q1 = none → WordAt H5 q1 w' → H5 q4 = none → StdOk tags F.length (w', s.2) →
        Q (.ref D) (upd (upd H5 q4 (.tup [.ref q1, .ref x.2.2])) D (.lst ((L.map fun x => V.ref x.1).set r (.ref q4)))) := fun w' H5 q1 q4 s5 n1 h1 n4' ok => by
      have s6 := Same.new s5 (o := .tup [.ref q1, .ref x.2.2]) n4'
      have h1' := (same_new (o := .tup [.ref q1, .ref x.2.2]) n4') _ _ h1
      have h2' : (upd H5 q4 (.tup [.ref q1, .ref x.2.2])) q4 = some (.tup [.ref q1, .ref x.2.2]) := upd_same
      have nn4 : H4 q4 = none := s5.free n4'
      generalize upd H5 q4 (.tup [.ref q1, .ref x.2.2]) = H6 at s6 h1' h2' ⊢
      have o1 : q1 ∉ inner L := fun h => by
        obtain ⟨_, h⟩ := n4.all.there h
        rw [h] at n1
        cases n1
      have d1 : D ≠ q1 := ne_of_none n4.lst n1
      have nn := newLSet (s := s) h1' (.of (hp.free x14 p4 nn4)) (.of (hp.free x14 p4 n1)) (n4.all.same s6) hx es h2' o1
      have oo : D ∉ inner (L.set r (q4, q1, x.2.2)) := fun h => by
        rcases mem_inner_set hx h with h | h
        · exact n4.out h
        · exact d1 h
      have xF : Exc [p] H (upd H6 D (.lst ((L.map fun x => V.ref x.1).set r (.ref q4)))) := (x14.trans (.of s6)).mut (.inr hD0)
      refine fin _ _ _ (formOk_set fo ok) (by rw [List.length_set]) xF ((p4.same s6).upd hDp.symm) (nn.upd (s6 _ _ n4.lst) oo) ?_ oo
      rw [upd_same, List.map_set]
    have hn : ∀ {l : List V}, l = (L.map fun x => V.ref x.1) → ixN l.length (r : Int) = some r := fun e => ixN_nat (by rw [e, List.length_map, n4.all.len]; exact hr)
    have n7 : (7 : Nat) + 1 ≤ 8 := Nat.le_refl _
    rcases (by omega : r3 = 0 ∨ r3 = 1 ∨ r3 = 2) with rfl | rfl | rfl
    · -- the first tag goes
      refine ⟨_, rfl, rfl, _, rfl, ?_⟩
      rw [decide_eq_true (by decide)]
      refine iteT ?_
      refine ⟨_, rfl, _, rfl, x.2.1, _, rfl, SqL.of g2, fun q1 hq1 => ?_⟩
      rw [show cutV (vS s.1) (some 1) none = vS (s.1.drop 1) from (cut_drop (vS s.1) 1).trans (vS_drop s.1 1)]
      refine ⟨_, rfl, by show 2 ≤ sizeLine; decide, fun q4 hq4 => ?_⟩
      have s5 := same_new (o := .lst (vS (s.1.drop 1))) hq1
      refine ⟨_, rfl, _, rfl, D, _, (r : Int), r, rfl, rfl, Same.new s5 hq4 _ _ n4.lst, hn rfl, ?_⟩
      refine ⟨_, rfl, rfl, _, rfl, ?_⟩
      rw [decide_eq_false (by decide)]
      refine iteF ?_
      refine ⟨_, rfl, rfl, _, rfl, ?_⟩
      rw [decide_eq_false (by decide)]
      refine iteF ?_
      refine ⟨_, rfl, wr (s.1.drop 1) _ q1 q4 s5 hq1 upd_same hq4 ⟨?_, fun t ht => sok.sub t (List.mem_of_mem_drop ht), sok.ways, sok.to⟩⟩
      show (s.1.drop 1).length ≤ 8
      rw [List.length_drop]
      omega
    · -- another way
      refine ⟨_, rfl, rfl, _, rfl, ?_⟩
      rw [decide_eq_false (by decide)]
      refine iteF ?_
      refine ⟨_, rfl, rfl, _, rfl, ?_⟩
      rw [decide_eq_true (by decide)]
      refine iteT ?_
      refine ⟨_, rfl, _, rfl, _, _, rfl, .inl (SqL.of n4.lst), ?_⟩
      refine ⟨p, F.length, by rw [List.length_map, n4.all.len]; rfl, by omega, by omega, p4, fun r5 H5 hr5 x5 p5 => ?_⟩
      refine ⟨by show 2 ≤ sizeLine; decide, fun t ht => ?_⟩
      have s6 := same_new (o := .lst [V.non, V.int (r5 : Int)]) ht
      have k6 : (upd H5 t (.lst [V.non, V.int (r5 : Int)])) t = some (.lst [V.non, V.int (r5 : Int)]) := upd_same
      have tp : t ≠ p := fun e => p5.ne ht e.symm
      have p6 := p5.same s6
      generalize upd H5 t (.lst [V.non, V.int (r5 : Int)]) = H6 at s6 k6 p6 ⊢
      refine ⟨_, rfl, p, 2, rfl, by decide, by decide, p6, fun r7 H7 hr7 x7 p7 => ?_⟩
      have k7 := x7 _ _ (by simpa using tp) k6
      have n7 := pg_form ((pg_form n4 x5 hp).same s6) x7 hp
      have xA := x14.trans (x5.trans ((Exc.of s6).trans x7))
      obtain ⟨x', hx', g1, g2, g3⟩ := n7.all.get es
      rw [hx] at hx'
      cases hx'
      obtain ⟨y, hy, hyn⟩ : ∃ y : Option Nat, [V.non, V.int (r5 : Int)][r7]? = some (vW y) ∧ ∀ m, y = some m → m = r5 := by
        rcases (by omega : r7 = 0 ∨ r7 = 1) with rfl | rfl
        · exact ⟨none, rfl, fun m h => by cases h⟩
        · exact ⟨some r5, rfl, fun m h => by cases h; rfl⟩
      refine ⟨t, _, _, _, rfl, rfl, SqL.of k7, atI_nat hy, ?_⟩
      have hsl : r4 < s.2.length := by rw [sok.ways]; exact hr4
      refine ⟨_, rfl, _, rfl, x.2.2, _, (r4 : Int), r4, rfl, rfl, g3, ixN_nat (by rw [vWs_len]; exact hsl), ?_⟩
      rw [vWs_set]
      refine ⟨_, rfl, rfl, _, rfl, ?_⟩
      rw [decide_eq_false (by decide)]
      refine iteF ?_
      have hm : x.2.2 ∈ inner L := List.mem_flatMap.mpr ⟨x, List.mem_of_getElem? hx, by simp⟩
      have hWp : x.2.2 ≠ p := fun e => by
        obtain ⟨d, c, n, h⟩ := hp
        rw [← e, hW0] at h
        cases h
      refine ⟨_, rfl, fin _ L _ (formOk_set (k := r) (s := (s.1, s.2.set r4 y)) fo ⟨sok.len, sok.sub, by rw [List.length_set]; exact sok.ways, fun m hm => ?_⟩) (by rw [List.length_set]) (xA.mut (.inr hW0)) (p7.upd hWp.symm) (NewL.setWays n7.all hx es) (Eq.trans (upd_ne fun e => n7.out (e ▸ hm)) n7.lst) n7.out⟩
      rcases List.mem_or_eq_of_mem_set hm with h | h
      · exact sok.to m h
      · rw [hyn m h.symm]
        exact hr5
    · -- one more tag
      refine ⟨_, rfl, rfl, _, rfl, ?_⟩
      rw [decide_eq_false (by decide)]
      refine iteF ?_
      refine ⟨_, rfl, rfl, _, rfl, ?_⟩
      rw [decide_eq_false (by decide)]
      refine iteF ?_
      refine ⟨_, rfl, rfl, _, rfl, ?_⟩
      rw [decide_eq_true (by decide)]
      refine iteT ?_
      have et : tags[r4]? = some (tags[r4]'hr4) := List.getElem?_eq_getElem hr4
      have htm : tags[r4]'hr4 ∈ tags := List.getElem_mem hr4
      generalize tags[r4]'hr4 = tg at et htm
      refine ⟨_, rfl, _, rfl, _, rfl, a, _, _, _, rfl, rfl, SqL.of ha4, atI_nat (vS_get et), ?_⟩
      refine ⟨by show 1 ≤ sizeLine; decide, fun q2 hq2 => ?_⟩
      have s1 := same_new (o := .lst [V.str tg]) hq2
      refine ⟨x.2.1, q2, _, _, rfl, rfl, s1 _ _ g2, upd_same, ?_, fun q1 hq1 => ?_⟩
      · rw [vS_len]
        exact sz_le (by show _ + 1 ≤ _; omega)
      rw [show vS s.1 ++ [V.str tg] = vS (s.1 ++ [tg]) from vS_append s.1 [tg]]
      have s5 := Same.new s1 (o := .lst (vS (s.1 ++ [tg]))) hq1
      refine ⟨_, rfl, by show 2 ≤ sizeLine; decide, fun q4 hq4 => ?_⟩
      refine ⟨_, rfl, _, rfl, D, _, (r : Int), r, rfl, rfl, Same.new s5 hq4 _ _ n4.lst, hn rfl, ?_⟩
      refine ⟨_, rfl, wr (s.1 ++ [tg]) _ q1 q4 s5 (s1.free hq1) upd_same hq4 ⟨?_, fun t ht => ?_, sok.ways, sok.to⟩⟩
      · show (s.1 ++ [tg]).length ≤ 8
        rw [List.length_append]
        show _ + 1 ≤ 8
        omega
      · rcases List.mem_append.mp ht with h | h
        · exact sok.sub t h
        · rw [List.mem_singleton.mp h]
          exact htm
end
end Law
end

section
set_option Elab.async false
set_option linter.all false
set_option maxRecDepth 100000
set_option maxHeartbeats 4000000
namespace Law
open PySem PySem.Spec PyProof.Rows L2 LamX QB QM
/-! one + one[:1]: its standings behind the others are never met -/
theorem wayAt_app {tags : Word} {F G : Form} {k : Nat} {t : Str} (h : k < F.length) : wayAt tags (F ++ G) k t = wayAt tags F k t := by
  unfold wayAt
  rw [List.getElem?_append_left h]
theorem wordOf_app {F G : Form} {k : Nat} (h : k < F.length) : wordOf (F ++ G) k = wordOf F k := by
  unfold wordOf
  rw [List.getElem?_append_left h]
theorem eff_app {tags : Word} {F G : Form} (g : Good tags F) : ∀ (u : Word) (k : Nat), k < F.length → eff tags (F ++ G) k u = eff tags F k u
  | [], k, h => wordOf_app h
  | t :: u, k, h => by
    rw [eff_cons, eff_cons, wayAt_app h, wordOf_app h]
    cases e : wayAt tags F k t with
    | none => rfl
    | some n =>
      rw [wayAt_std h] at e
      exact eff_app g u n (g.std_to h (way_mem e))
theorem formOk_more {tags : Word} {F : Form} (fo : FormOk tags F) (h : F.length + 1 ≤ 30) : FormOk tags (F ++ F.take 1) := by
  have hl : (F ++ F.take 1).length = F.length + 1 := by
    have := fo.pos
    rw [List.length_append, List.length_take]
    omega
  refine ⟨by omega, by omega, fun s hs => ?_⟩
  rw [hl]
  have hs : s ∈ F := by
    rcases List.mem_append.mp hs with h | h
    · exact h
    · exact List.mem_of_mem_take h
  obtain ⟨h1, h2, h3, h4⟩ := fo.all s hs
  exact ⟨h1, h2, h3, fun m hm => Nat.lt_succ_of_lt (h4 m hm)⟩
theorem least_more {tags : Word} {F : Form} (to : TagsOk tags) (fo : FormOk tags F) (h : F.length + 1 ≤ 30) : least tags (F ++ F.take 1) = least tags F :=
  least_same (formOk_more fo h).good fo.good to.nd fun r _ => by
    rw [make_eff, make_eff]
    exact eff_app fo.good r 0 fo.pos
theorem form_more {H H' : Hp} {f z : Addr} {F : Form} {ts : List V} (h : FormAt H f F) (s : Same H H') (hts : H f = some (.lst ts)) (hz : H' z = some (.lst (ts ++ ts.take 1))) : FormAt H' z (F ++ F.take 1) := by
  obtain ⟨as, h1, h2⟩ := h
  rw [hts] at h1
  cases h1
  have h2 := L2.Paired.mapP h2 fun t x q => Same.std s q
  refine ⟨as ++ as.take 1, by rw [hz, List.map_append, List.map_take], ?_⟩
  cases h2 with
  | nil => exact .nil
  | cons q r => exact Paired.snoc (.cons q r) q
theorem LeastV.symm {tags : Word} {A B : Form} {most : Nat} {H : Hp} {v : V} (h : LeastV tags A B most H v) : LeastV tags B A most H v := by
  rcases h with ⟨h1, h2⟩ | ⟨z, wd, h1, h2, h3, h4, h5⟩
  · exact .inl ⟨h1, fun u hu => (h2 u hu).symm⟩
  · exact .inr ⟨z, wd, h1, h2, h3, fun e => h4 e.symm, fun u hu hd => h5 u hu fun e => hd e.symm⟩
theorem LeastV.same {tags : Word} {A B : Form} {most : Nat} {H H' : Hp} {v : V} (h : LeastV tags A B most H v) (s : Same H H') : LeastV tags A B most H' v := by
  rcases h with h | ⟨z, wd, h1, h2, h3⟩
  · exact .inl h
  · exact .inr ⟨z, wd, h1, Same.word s h2, h3⟩
/-- both tell the same: as the program compares them -/
theorem part_ne {K : PySem.W.Frag} {tags : Word} {F G : Form} {n N : Nat} {H0 H : Hp} {v v2 : V} {Q : VK} (to : TagsOk tags) (gF : Good tags F) (gG : Good tags G) (lF : (least tags F).length ≤ n) (lG : (least tags G).length ≤ n) (hn : 1 ≤ n) (hn2 : n ≤ 1000) (hN : 3 * n ≤ N)
    (h1 : PartV tags (least tags F) (least tags G) H0 H v) (h2 : LeastV tags F G N H v2) (q : Q (.bl false) H) : rNeD K v v2 H Q := by
  rcases part_eq to gF gG lF lG hn hn2 hN h1 h2 with ⟨rfl, rfl, _⟩ | ⟨z, z2, wd, rfl, rfl, _, q1, q2, q3, _⟩
  · refine ne_enc enc_way (by decide) (x := none) (y := none) .non .non True.intro True.intro ?_
    rw [decide_eq_true rfl]
    exact q
  · refine ne_wd q1 q2 (sub_ok to q3) (sub_ok to q3) ?_
    rw [decide_eq_true rfl]
    exact q
theorem PartV.self {tags : Word} {A : Form} {H H' : Hp} {v : V} (h : PartV tags A A H H' v) : v = .non := by
  rcases h with ⟨h, _⟩ | ⟨z, wd, _, _, _, _, h, _⟩
  · exact h
  · exact absurd rfl h
theorem eatEq {K : PySem.W.Frag} {C : Addr} {H : Hp} {e f : Addr} {tags : Word} {G G2 : Form} {Q : VK} {E : XK} (he : EatAt C H e tags G) (hf : EatAt C H f tags G2) (w1 : WordsOk tags G) (w2 : WordsOk tags G2) (k : Q (.bl (decide (G = G2))) H) : spEqE K C [.ref e, .ref f] H Q E := by
  refine ⟨e, .ref f, tags, G, rfl, he, w1.txt, fun s hs t ht => w1.txt t (w1.sub s hs t ht), .inl ⟨f, tags, G2, rfl, hf, w1.txt, fun s hs t ht => w2.txt t (w2.sub s hs t ht), ?_⟩⟩
  rw [decide_eq_true rfl, Bool.true_and]
  exact k
theorem most_k4 {n : Nat} (h1 : 1 ≤ n) (h3 : n ≤ 3) : ∃ m : Nat, (n = 1 ∧ m = 4 ∨ n = 2 ∧ m = 3 ∨ n = 3 ∧ m = 2) ∧ atI [V.int 4, V.int 3, V.int 2] ((n : Int) - 1) = some (.int (m : Int)) := by
  rcases (by omega : n = 1 ∨ n = 2 ∨ n = 3) with rfl | rfl | rfl
  · exact ⟨4, by decide, atI_nat (j := 0) rfl⟩
  · exact ⟨3, by decide, atI_nat (j := 1) rfl⟩
  · exact ⟨2, by decide, atI_nat (j := 2) rfl⟩
end Law
end

section
set_option Elab.async false
set_option linter.all false
set_option maxRecDepth 100000
set_option maxHeartbeats 4000000
namespace Law
open PySem PySem.Spec PyProof.Rows L2 LamX QB QM
/-- where the law stands -/
structure Cur (T : List (Addr × Str)) (C : Addr) (H0 H : Hp) (p a f e : Addr) (tags : Word) (F : Form) : Prop where
  ext : QB.Ext T H0 H
  fp : Fresh H0 p
  pl : PileAt H p
  wa : WordAt H a tags
  fm : FmP p H f F
  et : EtP C p H e tags (least tags F)
section
variable {T : List (Addr × Str)} {C : Addr} {H0 H H' : Hp} {p a f e : Addr} {tags : Word} {F : Form}
theorem Cur.exT (c : Cur T C H0 H p a f e tags F) (x : QB.Ext T H H') : Cur T C H0 H' p a f e tags F := ⟨c.ext.trans x, c.fp, pg_pile x c.pl, x.word c.wa, c.fm.ext x, c.et.ext x⟩
theorem Cur.same (c : Cur T C H0 H p a f e tags F) (x : Same H H') : Cur T C H0 H' p a f e tags F := c.exT (.of x)
theorem Cur.exc (c : Cur T C H0 H p a f e tags F) (x : Exc [p] H H') (pl : PileAt H' p) : Cur T C H0 H' p a f e tags F := ⟨pg_ext c.ext x c.fp c.pl, c.fp, pl, pg_word x c.pl c.wa, c.fm.exc x, c.et.exc x⟩
end
/-- another form, as the law has it -/
def Oth (tags : Word) (m : Nat) (H : Hp) (o : Addr) (B : Form) : Prop := FormAt H o B ∧ FormOk tags B ∧ (least tags B).length ≤ m
theorem Oth.ext {T : List (Addr × Str)} {tags : Word} {m : Nat} {H H' : Hp} {o : Addr} {B : Form} (h : Oth tags m H o B) (x : QB.Ext T H H') : Oth tags m H' o B := ⟨x.form h.1, h.2⟩
section
variable {P : Program} {w : World} {K : PySem.W.Frag} {mg : Str → Option Value} {base : Heap}
def spLaw (K : PySem.W.Frag) (T : List (Addr × Str)) : Sp := fun vs H Q _ => ∃ (l : Addr) (ns : List Int), vs = [.ref l] ∧ SqL K H l (ns.map V.int) ∧ Tabs T H ∧ ∀ H', Q (.bl true) H'
theorem ok_law (X : TX K mg) (TB : LamX.TabB base mg X.lam_c X.lam_P) : FnOk P w K mg base CX0 7 X.d_law.a X.d_law.fd ["script"] (spLaw K (Tof X)) := by
  have nd := sc_law.nd
  refine X.d_law.F.ok sc_law (fun vs H Q E h => ?_) (fun cdv A0 outer s H vs Q E hr h => ?_)
  · obtain ⟨l, ns, rfl, _⟩ := h
    rfl
  · obtain ⟨l, ns, rfl, hl, tb, k⟩ := h
    refine ⟨_, (pss_cons (ps_for PassesOwn.never rfl (pi_range1 (by rfl) X.n_range (pa_cons pe_int pa_nil)) (pg_name (i := 1) nd rfl (Or.inl rfl)) (pss_cons (ps_set (i := 2) nd rfl (Or.inl rfl) (pe_call (ok__law_pile X) (hr.mono (by decide)) rfl X.d__law_pile.mg X.d__law_pile.F.kp X.d__law_pile.b .nil pass0 (pa_cons (pv 0) (pa_cons (pv 1) pa_nil)))) (pss_cons (ps_set (i := 3) nd rfl (Or.inl rfl) (pe_call (ok__law_tags X) (hr.mono (by decide)) rfl X.d__law_tags.mg X.d__law_tags.F.kp X.d__law_tags.b .nil pass0 (pa_cons (pv 2) (pa_cons (pe_op op_add pe_int (pe_call (ok__law_take X) (hr.mono (by decide)) rfl X.d__law_take.mg X.d__law_take.F.kp X.d__law_take.b .nil pass0 (pa_cons (pv 2) (pa_cons pe_int pa_nil)))) pa_nil)))) (pss_cons (ps_set (i := 4) nd rfl (Or.inl rfl) (pe_ix (QB.ix_listK K) (pe_lst (pa_cons pe_int (pa_cons pe_int (pa_cons pe_int pa_nil)))) (pe_op op_sub (pe_callB (QB.call_lenK K) (by rfl) X.n_len PySem.boot_len (pa_cons (pv 3) pa_nil)) pe_int) (fun _ _ => rfl))) (pss_cons (ps_set (i := 5) nd rfl (Or.inl rfl) (pe_call (ok__law_eater X) (hr.mono (by decide)) rfl X.d__law_eater.mg X.d__law_eater.F.kp X.d__law_eater.b .nil pass0 (pa_cons (pv 2) (pa_cons (pv 3) (pa_cons (pv 4) (pa_cons pe_int pa_nil)))))) (pss_cons (ps_set (i := 6) nd rfl (Or.inl rfl) (pe_make X.mk_Eater (ok_Eater___init__ X TB) (hr.mono (by decide)) rfl X.m_Eater X.d_Eater___init__.b .nil pass0 (pa_cons (pv 3) (pa_cons (pe_call (ok__law_copy X) (hr.mono (by decide)) rfl X.d__law_copy.mg X.d__law_copy.F.kp X.d__law_copy.b .nil pass0 (pa_cons (pv 5) pa_nil)) pa_nil)))) (pss_cons (ps_for PassesOwn.never rfl (QB.pi_listK K (pe_lst (pa_cons (pe_call (ok__law_eater X) (hr.mono (by decide)) rfl X.d__law_eater.mg X.d__law_eater.F.kp X.d__law_eater.b .nil pass0 (pa_cons (pv 2) (pa_cons (pv 3) (pa_cons (pv 4) (pa_cons pe_int pa_nil))))) (pa_cons (pe_call (ok__law_near X) (hr.mono (by decide)) rfl X.d__law_near.mg X.d__law_near.F.kp X.d__law_near.b .nil pass0 (pa_cons (pv 2) (pa_cons (pv 3) (pa_cons (pv 5) pa_nil)))) (pa_cons (pe_op op_cat (pv 5) (pe_slice (QB.sl_listK K) (pv 5) po_none (po_some pe_int))) pa_nil))))) (pg_name (i := 7) nd rfl (Or.inl rfl)) (pss_cons (ps_set (i := 8) nd rfl (Or.inl rfl) (pe_make X.mk_Eater (ok_Eater___init__ X TB) (hr.mono (by decide)) rfl X.m_Eater X.d_Eater___init__.b .nil pass0 (pa_cons (pv 3) (pa_cons (pe_call (ok__law_copy X) (hr.mono (by decide)) rfl X.d__law_copy.mg X.d__law_copy.F.kp X.d__law_copy.b .nil pass0 (pa_cons (pv 7) pa_nil)) pa_nil)))) (pss_cons (ps_set (i := 9) nd rfl (Or.inl rfl) (pe_call (ok__law_least_parting X) (hr.mono (by decide)) rfl X.d__law_least_parting.mg X.d__law_least_parting.F.kp X.d__law_least_parting.b .nil pass0 (pa_cons (pv 3) (pa_cons (pv 5) (pa_cons (pv 7) (pa_cons (pe_op op_mul pe_int (pv 4)) pa_nil)))))) (pss_one (ps_for PassesOwn.never rfl (pi_range1 (by rfl) X.n_range (pa_cons pe_int pa_nil)) (pg_name (i := 10) nd rfl (Or.inl rfl)) (pss_cons (ps_set (i := 11) nd rfl (Or.inl rfl) (pe_call (ok_parting X) (hr.mono (by decide)) rfl X.d_parting.mg X.d_parting.F.kp X.d_parting.b .nil pass0 (pa_cons (pv 6) (pa_cons (pv 8) pa_nil)))) (pss_cons (ps_if (PW.pt (pw_or (pt_cmpR (QB.op_neDK K hr.units) (pv 11) (pv 9) (nomark _)) (pw_or (pt_cmpR (QB.op_neDK K hr.units) (pe_call (ok_parting X) (hr.mono (by decide)) rfl X.d_parting.mg X.d_parting.F.kp X.d_parting.b .nil pass0 (pa_cons (pv 8) (pa_cons (pv 6) pa_nil))) (pv 9) (nomark _)) (pw_or1 (pt_cmpR op_ne (pe_cmpR (QO.op_eqO (ok_Eater___eq__ X) X.h_Eater___eq__ (hr.mono (by decide)) X.d_Eater___eq__.b pass0) (pv 6) (pv 8) (nomark _)) (pe_cmpR op_isN (pv 9) pe_non (nomark _)) (nomark _)))))) (pss_one (ps_ret pe_bl)) pss_nil) (pss_one (ps_if (pt_cmpR op_notN (pv 11) pe_non (nomark _)) (pss_one (ps_expr (QB.pe_bmK K PySem.F.plainAttrs_list PySem.F.slot_list_append PySem.F.type_list_append mt_append (pv 11) (pa_cons pe_str pa_nil)))) pss_nil))))))))) (pss_one (ps_if (pt_cmpR op_notN (pe_call (ok_parting X) (hr.mono (by decide)) rfl X.d_parting.mg X.d_parting.F.kp X.d_parting.b .nil pass0 (pa_cons (pv 6) (pa_cons (pv 6) pa_nil))) pe_non (nomark _)) (pss_one (ps_ret pe_bl)) pss_nil))))))))) (pss_one (ps_ret pe_bl))), ?_⟩
    try dsimp only [Cx.nox, Cx.wish, cxOf]
    refine ⟨(6 : Int), rfl, by decide, by decide, ?_⟩
    refine for_it (walk_range (lo := 0) (n := 6)) (fun i σ H' => ∃ v1 v2 v3 v4 v5 v6 v7 v8 v9 v10 v11 : Option V, σ = [some (.ref l), v1, v2, v3, v4, v5, v6, v7, v8, v9, v10, v11] ∧ QB.Ext (Tof X) H H')
      ⟨none, none, none, none, none, none, none, none, none, none, none, rfl, .refl⟩ (fun _ _ _ _ _ => True.intro) ?_ ?_
    · rintro i x σ H1 H2 hi ⟨v1, v2, v3, v4, v5, v6, v7, v8, v9, v10, v11, rfl, e1⟩ ⟨rfl, rfl⟩
      -- the pile
      refine ⟨_, rfl, _, rfl, ?_⟩
      refine ⟨l, ns, 0 + i, rfl, e1.sqL hl, fun p H3 s3 np p3 => ?_⟩
      have e3 := e1.trans (.of s3)
      have fp : Fresh H p := e1.fresh (.of np)
      clear s3 np e1
      -- the tags
      refine ⟨_, rfl, _, rfl, ?_⟩
      refine ⟨p, 3, rfl, by decide, by decide, p3, fun r H4 hr4 x4 p4 => ?_⟩
      have e4 := pg_ext e3 x4 fp p3
      refine ⟨_, _, rfl, rfl, ?_⟩
      refine ⟨p, 1 + r, rfl, by omega, by omega, p4, fun tags a H5 to tl x5 p5 na wa => ?_⟩
      have e5 := pg_ext e4 x5 fp p4
      have tl3 : tags.length ≤ 3 := by omega
      clear x4 x5 p3 p4 e3 e4 na tl
      have okt := to.ok
      have htl := to.len
      have htp := to.pos
      -- most
      obtain ⟨m, hm, em⟩ := most_k4 htp tl3
      refine ⟨by show 3 ≤ sizeLine; decide, fun q1 n1 => ?_⟩
      have s6 := same_new (o := .lst [V.int 4, V.int 3, V.int 2]) n1
      have k6 : (upd H5 q1 (.lst [V.int 4, V.int 3, V.int 2])) q1 = some (.lst [V.int 4, V.int 3, V.int 2]) := upd_same
      generalize upd H5 q1 (.lst [V.int 4, V.int 3, V.int 2]) = H6 at s6 k6 ⊢
      have wa6 := Same.word s6 wa
      have e6 := e5.trans (.of s6)
      have p6 := p5.same s6
      refine ⟨_, rfl, _, _, rfl, .inl (SqL.of wa6), _, _, rfl, rfl, q1, _, _, _, rfl, rfl, SqL.of k6, by rw [vS_len]; exact em, ?_⟩
      clear s6 k6 n1 p5 wa e5 em
      have hm1 : 2 ≤ m ∧ m ≤ 4 := by omega
      have hwb := words_bound (tags := tags) (N := 3 * m) (by omega)
      -- one
      refine ⟨_, rfl, _, rfl, _, rfl, p, a, tags, m, 3, rfl, by omega, by omega, by decide, p6, wa6, to, fun F L f H7 fo fl hlo x7 p7 n7 => ?_⟩
      have fm7 : FmP p H7 f F := ⟨H6, L, p6, n7⟩
      have e7 := pg_ext e6 x7 fp p6
      have wa7 := pg_word x7 p6 wa6
      have h7 : ∀ s ∈ F, s.1.length ≤ 7 := fun s hs => by
        obtain ⟨i, hi, es⟩ := List.mem_iff_getElem.mp hs
        have := hlo i s (by rw [List.getElem?_eq_getElem hi, es])
        omega
      clear x7 e6 p6 wa6 n7 hlo
      -- made
      refine ⟨_, rfl, _, rfl, f, F, rfl, fm7.form, by have := fo.len; omega, fun c2 L3 H8 s8 n8 => ?_⟩
      refine fun e dx ho hd hne => ?_
      have e8 := e7.trans (.of s8)
      have wa8 := Same.word s8 wa7
      have t8 := e8.2 tb
      have sM : Same H8 (upd (upd H8 dx (.own e)) e (.ins X.c_Eater dx [])) := Same.new (same_new hd) ((upd_ne hne.symm).trans ho)
      refine ⟨e, dx, a, c2, tags, F, H8, rfl, upd_same, Same.word sM wa8, Same.form sM n8.form, to, fo, t8.ext sM, .of sM, .of ho, fun a1 b1 M1 H9 e9 _ n9 => ?_⟩
      refine ⟨rfl, ?_⟩
      have cu : Cur (Tof X) X.c_Eater H H9 p a f e tags F := ⟨e8.trans e9, fp, pg_pile e9 (p7.same s8), e9.word wa8, (fm7.same s8).ext e9, ⟨H8, dx, a1, b1, M1, p7.same s8, n9⟩⟩
      clear e8 e9 p7 s8 wa8 fm7 n9 n8 sM t8 ho hd hne wa7 e7 fp
      show tSeq _ _ _ (List.set _ 6 _) _
      generalize hσ : (List.set _ 6 _) = σ6
      have eσ : σ6 = [some (.ref l), some (.int (0 + (i : Int))), some (.ref p), some (.ref a), some (.int (m : Int)), some (.ref f), some (.ref e), v7, v8, v9, v10, v11] := by
        rw [← hσ]
        rfl
      subst eσ
      clear hσ
      have gF := fo.good
      have lsF : (least tags F).length ≤ m := Nat.le_trans (least_len gF) fl
      have wF := least_wordsF to fo
      have glF := least_goodF fo
      -- the others
      refine ⟨_, rfl, _, rfl, _, rfl, p, a, tags, m, 3, rfl, by omega, by omega, by decide, cu.pl, cu.wa, to, fun F2 L2 o2 H10 fo2 fl2 _ x10 p10 n10 => ?_⟩
      have m2 : FmP p H10 o2 F2 := ⟨H9, L2, cu.pl, n10⟩
      have cu := cu.exc x10 p10
      clear n10 x10 p10
      refine ⟨_, rfl, _, rfl, _, rfl, p, a, f, tags, F, rfl, cu.pl, cu.wa, to, cu.fm, fo, h7, fun F3 L3 o3 H11 fo3 fl3 x11 p11 n11 => ?_⟩
      have m3 : FmP p H11 o3 F3 := ⟨H10, L3, cu.pl, n11⟩
      have m2 := m2.exc x11
      have cu := cu.exc x11 p11
      clear n11 x11 p11
      obtain ⟨vsF, hvF, hlF⟩ := cu.fm.form.lst
      refine ⟨_, rfl, _, rfl, _, rfl, f, _, rfl, SqL.of hvF, fun q5 n5 => ?_⟩
      have s12 := same_new (o := .lst (cutV vsF none (some 1))) n5
      have k12 : (upd H11 q5 (.lst (cutV vsF none (some 1)))) q5 = some (.lst (vsF.take 1)) := by rw [upd_same]; exact congrArg (fun z => some (HO.lst z)) (cut_take vsF 1)
      generalize upd H11 q5 (.lst (cutV vsF none (some 1))) = H12 at s12 k12 ⊢
      refine ⟨f, q5, _, _, rfl, rfl, s12 _ _ hvF, k12, ?_, fun o4 n4 => ?_⟩
      · have := fo.len
        rw [List.length_take]
        exact sz_le (by omega)
      have s13 := s12.trans (same_new (o := .lst (vsF ++ vsF.take 1)) n4)
      have m4 : FormAt (upd H12 o4 (.lst (vsF ++ vsF.take 1))) o4 (F ++ F.take 1) := form_more cu.fm.form s13 hvF upd_same
      generalize upd H12 o4 (.lst (vsF ++ vsF.take 1)) = H13 at s13 m4 ⊢
      have cu := cu.same s13
      have m2 := m2.same s13
      have m3 := m3.same s13
      clear s12 s13 k12 n4 n5 hvF hlF
      have lF30 : F.length + 1 ≤ 30 := by omega
      have O2 : Oth tags m H13 o2 F2 := ⟨m2.form, fo2, Nat.le_trans (least_len fo2.good) fl2⟩
      have O3 : Oth tags m H13 o3 F3 := ⟨m3.form, fo3, Nat.le_trans (least_len fo3.good) (by omega)⟩
      have O4 : Oth tags m H13 o4 (F ++ F.take 1) := ⟨m4, formOk_more fo lF30, by rw [least_more to fo lF30]; exact lsF⟩
      clear m2 m3 m4 fo2 fo3 fl2 fl3 h7
      refine ⟨by show 3 ≤ sizeLine; decide, fun OL nOL => ?_⟩
      have s14 := same_new (o := .lst [V.ref o2, V.ref o3, V.ref o4]) nOL
      have kOL : (upd H13 OL (.lst [V.ref o2, V.ref o3, V.ref o4])) OL = some (.lst [V.ref o2, V.ref o3, V.ref o4]) := upd_same
      generalize upd H13 OL (.lst [V.ref o2, V.ref o3, V.ref o4]) = H14 at s14 kOL ⊢
      have cu := cu.same s14
      have O2 := O2.ext (T := []) (.of s14)
      have O3 := O3.ext (T := []) (.of s14)
      have O4 := O4.ext (T := []) (.of s14)
      clear s14 nOL
      refine ⟨_, rfl, ⟨_, SqL.of kOL⟩, ?_⟩
      refine for_it (walk_list (K := K) (a := OL) (xs := [V.ref o2, V.ref o3, V.ref o4])) (fun j σ H' => ∃ v7 v8 v9 v10 v11 : Option V, σ = [some (.ref l), some (.int (0 + (i : Int))), some (.ref p), some (.ref a), some (.int (m : Int)), some (.ref f), some (.ref e), v7, v8, v9, v10, v11] ∧ QB.Ext (Tof X) H14 H')
        ⟨_, _, _, _, _, rfl, .refl⟩ (fun j σ H' _ ⟨_, _, _, _, _, _, x⟩ => SqL.of (x.lst kOL)) ?_ ?_
      · clear v7 v8 v9 v10 v11
        rintro j x σ H15 H16 hj ⟨v7, v8, v9, v10, v11, rfl, e15⟩ ⟨rfl, hx⟩
        obtain ⟨o, B, rfl, hO⟩ : ∃ (o : Addr) (B : Form), x = .ref o ∧ Oth tags m H14 o B := by
          have hj : j < 3 := hj
          rcases (by omega : j = 0 ∨ j = 1 ∨ j = 2) with rfl | rfl | rfl
          · exact ⟨o2, _, (Option.some.inj hx).symm, O2⟩
          · exact ⟨o3, _, (Option.some.inj hx).symm, O3⟩
          · exact ⟨o4, _, (Option.some.inj hx).symm, O4⟩
        clear hx O2 O3 O4
        have cu := cu.exT e15
        obtain ⟨hB, foB, lsB⟩ := hO.ext e15
        clear hO
        have gB := foB.good
        have wB := least_wordsF to foB
        have glB := least_goodF foB
        -- near
        refine ⟨_, rfl, _, rfl, o, B, rfl, hB, by have := foB.len; omega, fun c2 L3 H17 s17 n17 => ?_⟩
        refine fun en dx ho hd hne => ?_
        have e17 := e15.trans (.of s17)
        have cu := cu.same s17
        have hB := Same.form s17 hB
        have t17 := cu.ext.2 tb
        have sM : Same H17 (upd (upd H17 dx (.own en)) en (.ins X.c_Eater dx [])) := Same.new (same_new hd) ((upd_ne hne.symm).trans ho)
        refine ⟨en, dx, a, c2, tags, B, H17, rfl, upd_same, Same.word sM cu.wa, Same.form sM n17.form, to, foB, t17.ext sM, .of sM, .of ho, fun a1 b1 M1 H18 e18 _ n18 => ?_⟩
        refine ⟨rfl, ?_⟩
        have e18' := e17.trans e18
        have cu := cu.exT e18
        have hB := e18.form hB
        have nE := n18.at_
        clear n17 n18 e17 s17 sM t17 ho hd hne e18 e15
        -- due
        refine ⟨_, rfl, _, rfl, _, rfl, _, rfl, _, _, rfl, rfl, .inl ⟨by omega, by omega⟩, ?_⟩
        refine ⟨a, f, o, tags, F, B, 3 * m, congrArg (fun t : Int => [V.ref a, V.ref f, V.ref o, V.int t]) (by omega), cu.wa, cu.fm.form, hB, gF, gB, fo.words to, foB.words to, to, by omega, hwb, fun v H19 s19 hv => ?_⟩
        have cu := cu.same s19
        have nE := nE.same s19
        have e19 := e18'.trans (.of s19)
        clear s19 e18' hB
        show tSeq _ _ _ (List.set _ 9 _) _
        generalize hσ : (List.set _ 9 _) = σ9
        have eσ : σ9 = [some (.ref l), some (.int (0 + (i : Int))), some (.ref p), some (.ref a), some (.int (m : Int)), some (.ref f), some (.ref e), some (.ref o), some (.ref en), some v, v10, v11] := by
          rw [← hσ]
          rfl
        subst eσ
        clear hσ
        refine ⟨(2 : Int), rfl, by decide, by decide, ?_⟩
        refine for_it (walk_range (lo := 0) (n := 2)) (fun j σ H' => ∃ v10 v11 : Option V, σ = [some (.ref l), some (.int (0 + (i : Int))), some (.ref p), some (.ref a), some (.int (m : Int)), some (.ref f), some (.ref e), some (.ref o), some (.ref en), some v, v10, v11] ∧ Same H19 H')
          ⟨_, _, rfl, Same.refl _⟩ (fun _ _ _ _ _ => True.intro) ?_ ?_
        · clear v10 v11
          rintro j2 x σ H20 H21 hj2 ⟨v10, v11, rfl, s20⟩ ⟨rfl, rfl⟩
          have cu := cu.same s20
          have nE := nE.same s20
          have hv := hv.same s20
          refine ⟨_, rfl, _, rfl, e, en, tags, least tags F, least tags B, rfl, cu.et.at_, nE, glF, glB, wF, wB, to, by omega, by omega, fun v1 H22 s22 hv1 => ?_⟩
          have cu := cu.same s22
          have nE := nE.same s22
          have hv := hv.same s22
          have s02 := s20.trans s22
          refine ⟨_, rfl, _, rfl, ?_⟩
          refine part_ne to gF gB lsF lsB (by omega) (by omega) (Nat.le_refl _) hv1 hv ?_
          refine ⟨_, rfl, iteF ?_⟩
          refine ⟨_, rfl, _, rfl, en, e, tags, least tags B, least tags F, rfl, nE, cu.et.at_, glB, glF, wB, wF, to, by omega, by omega, fun v2 H23 s23 hv2 => ?_⟩
          have cu := cu.same s23
          have nE := nE.same s23
          have hv := hv.same s23
          have s03 := s02.trans s23
          have hv1' : PartV tags (least tags F) (least tags B) H21 H23 v1 := by
            rcases hv1 with h | ⟨z, wd, q1, q2, q3, q4⟩
            · exact .inl h
            · exact .inr ⟨z, wd, q1, q2, Same.word s23 q3, q4⟩
          refine ⟨_, rfl, ?_⟩
          refine part_ne to gB gF lsB lsF (by omega) (by omega) (Nat.le_refl _) hv2 hv.symm ?_
          refine ⟨_, rfl, iteF ?_⟩
          obtain ⟨dz, _, _, iz, _⟩ := cu.et.at_
          have nE' := nE
          obtain ⟨dy, _, _, iy, _⟩ := nE
          refine ⟨_, rfl, _, rfl, e, dz, _, _, rfl, iz, X.oc_Eater.ty X.cl_Eater iy, QO.OwnC.same, ?_⟩
          refine eatEq cu.et.at_ nE' wF wB ?_
          refine ⟨_, rfl, _, rfl, rfl, ?_⟩
          have hq : decide (least tags F = least tags B) = decide (v = V.non) := by
            rcases part_eq to gF gB lsF lsB (by omega) (by omega) (Nat.le_refl _) hv1' hv with ⟨_, h2, h3⟩ | ⟨z, z2, wd, _, h2, _, _, _, _, h3⟩
            · rw [h2, decide_eq_true h3, decide_eq_true rfl]
            · rw [h2, decide_eq_false h3, decide_eq_false (fun e => nomatch e)]
          rw [hq]
          refine ⟨rfl, _, rfl, ?_⟩
          rw [decide_eq_true rfl]
          refine iteF ?_
          have hlen : ∀ (z : Addr) (wd : Word), v1 = .ref z → WordAt H23 z wd → wd.length ≤ 12 := fun z wd e1 e2 => by
            rcases part_eq to gF gB lsF lsB (by omega) (by omega) (Nat.le_refl _) hv1' hv with ⟨h1, _, _⟩ | ⟨z1, z2, wd1, h1, h2, _, q1, q2, _, _⟩
            · rw [h1] at e1
              cases e1
            · rcases hv with ⟨h, _⟩ | ⟨z3, wd3, h3, q3, hm3, _⟩
              · rw [h2] at h
                cases h
              · rw [h1] at e1
                cases e1
                rw [h2] at h3
                cases h3
                have l1 : wd.length = wd1.length := by
                  have z := e2.symm.trans q1
                  rw [← vS_len (w := wd), HO.lst.inj (Option.some.inj z), vS_len]
                have l2 : wd1.length = wd3.length := by
                  have z := q2.symm.trans q3
                  rw [← vS_len (w := wd1), HO.lst.inj (Option.some.inj z), vS_len]
                have := ((allW_mem (3 * m) wd3).mp hm3).2
                omega
          rcases hv1' with ⟨rfl, _⟩ | ⟨z, wd, rfl, hz, hw, _⟩
          · refine ⟨_, rfl, rfl, _, rfl, ?_⟩
            rw [decide_eq_true rfl]
            refine iteF ?_
            exact ⟨_, _, rfl, s03⟩
          · refine ⟨_, rfl, rfl, _, rfl, ?_⟩
            rw [decide_eq_false (fun e => nomatch e)]
            refine iteT ?_
            refine ⟨_, rfl, .inl ⟨rfl, _, SqL.of hw⟩, ?_⟩
            dsimp only [tNil, tCons]
            refine ⟨z, _, _, rfl, rfl, hw, by rw [vS_len]; exact sz_lt (by have := hlen z wd rfl hw; omega), ?_⟩
            exact ⟨_, _, rfl, Same.mut s03 (s20.free hz)⟩
        · rintro σ H20 ⟨v10, v11, rfl, s20⟩
          exact ⟨_, _, _, _, _, rfl, e19.trans (.of s20)⟩
      · rintro σ H15 ⟨v7, v8, v9, v10, v11, rfl, e15⟩
        have cu := cu.exT e15
        refine ⟨_, rfl, _, rfl, e, e, tags, least tags F, least tags F, rfl, cu.et.at_, cu.et.at_, glF, glF, wF, wF, to, by omega, by omega, fun v1 H22 s22 hv1 => ?_⟩
        have cu := cu.same s22
        have hz := hv1.self
        subst hz
        refine ⟨rfl, _, rfl, ?_⟩
        rw [decide_eq_true rfl]
        refine iteF ?_
        exact ⟨_, _, _, _, _, _, _, _, _, _, _, rfl, cu.ext⟩
    · rintro σ H2 ⟨v1, v2, v3, v4, v5, v6, v7, v8, v9, v10, v11, rfl, e1⟩
      exact k H2
end
end Law
end

section
set_option Elab.async false
set_option linter.all false
set_option maxRecDepth 100000
set_option maxHeartbeats 0
namespace Law
open PySem PySem.Spec PyProof.Rows L2 LamX QB QM
def dds : List He.DefD := [⟨("_wall", none), "_wall", "_wall", defArgs s__wall, defBody s__wall, defScope s__wall, [], []⟩,
  ⟨("is_number", none), "is_number", "is_number", defArgs s_is_number, defBody s_is_number, defScope s_is_number, [], []⟩,
  ⟨("is_list", none), "is_list", "is_list", defArgs s_is_list, defBody s_is_list, defScope s_is_list, [], []⟩,
  ⟨("is_name", none), "is_name", "is_name", defArgs s_is_name, defBody s_is_name, defScope s_is_name, [], []⟩,
  ⟨("is_tag", none), "is_tag", "is_tag", defArgs s_is_tag, defBody s_is_tag, defScope s_is_tag, [], []⟩,
  ⟨("is_subject", none), "is_subject", "is_subject", defArgs s_is_subject, defBody s_is_subject, defScope s_is_subject, [], []⟩,
  ⟨("is_standing", none), "is_standing", "is_standing", defArgs s_is_standing, defBody s_is_standing, defScope s_is_standing, [], []⟩,
  ⟨("check_tags", none), "check_tags", "check_tags", defArgs s_check_tags, defBody s_check_tags, defScope s_check_tags, [], []⟩,
  ⟨("check_word", none), "check_word", "check_word", defArgs s_check_word, defBody s_check_word, defScope s_check_word, [], []⟩,
  ⟨("check_standings", none), "check_standings", "check_standings", defArgs s_check_standings, defBody s_check_standings, defScope s_check_standings, [], []⟩,
  ⟨("no_ways", none), "no_ways", "no_ways", defArgs s_no_ways, defBody s_no_ways, defScope s_no_ways, [], []⟩,
  ⟨("walked", none), "walked", "walked", defArgs s_walked, defBody s_walked, defScope s_walked, [], []⟩,
  ⟨("made", none), "made", "made", defArgs s_made, defBody s_made, defScope s_made, [], []⟩,
  ⟨("is_settled_at", none), "is_settled_at", "is_settled_at", defArgs s_is_settled_at, defBody s_is_settled_at, defScope s_is_settled_at, [], []⟩,
  ⟨("is_made_at", none), "is_made_at", "is_made_at", defArgs s_is_made_at, defBody s_is_made_at, defScope s_is_made_at, [], []⟩,
  ⟨("copied", none), "copied", "copied", defArgs s_copied, defBody s_copied, defScope s_copied, [], []⟩,
  ⟨("without_needless_ways", none), "without_needless_ways", "without_needless_ways", defArgs s_without_needless_ways, defBody s_without_needless_ways, defScope s_without_needless_ways, [], []⟩,
  ⟨("numbered", none), "numbered", "numbered", defArgs s_numbered, defBody s_numbered, defScope s_numbered, [], []⟩,
  ⟨("parted", none), "parted", "parted", defArgs s_parted, defBody s_parted, defScope s_parted, [], []⟩,
  ⟨("alike_classes", none), "alike_classes", "alike_classes", defArgs s_alike_classes, defBody s_alike_classes, defScope s_alike_classes, [], []⟩,
  ⟨("in_order_met", none), "in_order_met", "in_order_met", defArgs s_in_order_met, defBody s_in_order_met, defScope s_in_order_met, [], []⟩,
  ⟨("least_form", none), "least_form", "least_form", defArgs s_least_form, defBody s_least_form, defScope s_least_form, [], []⟩,
  ⟨("moved", none), "moved", "moved", defArgs s_moved, defBody s_moved, defScope s_moved, [], []⟩,
  ⟨("one_behind_other", none), "one_behind_other", "one_behind_other", defArgs s_one_behind_other, defBody s_one_behind_other, defScope s_one_behind_other, [], []⟩,
  ⟨("stepped", none), "stepped", "stepped", defArgs s_stepped, defBody s_stepped, defScope s_stepped, [], []⟩,
  ⟨("way_back", none), "way_back", "way_back", defArgs s_way_back, defBody s_way_back, defScope s_way_back, [], []⟩,
  ⟨("parting_word", none), "parting_word", "parting_word", defArgs s_parting_word, defBody s_parting_word, defScope s_parting_word, [], []⟩,
  ⟨("eater_of", none), "eater_of", "eater_of", defArgs s_eater_of, defBody s_eater_of, defScope s_eater_of, [], []⟩,
  ⟨("small_form", none), "small_form", "small_form", defArgs s_small_form, defBody s_small_form, defScope s_small_form, [], []⟩,
  ⟨("check_same_tags", none), "check_same_tags", "check_same_tags", defArgs s_check_same_tags, defBody s_check_same_tags, defScope s_check_same_tags, [], []⟩,
  ⟨("parting", none), "parting", "parting", defArgs s_parting, defBody s_parting, defScope s_parting, [], []⟩,
  ⟨("_law_mixed", none), "_law_mixed", "_law_mixed", defArgs s__law_mixed, defBody s__law_mixed, defScope s__law_mixed, [], []⟩,
  ⟨("_law_pile", none), "_law_pile", "_law_pile", defArgs s__law_pile, defBody s__law_pile, defScope s__law_pile, [], []⟩,
  ⟨("_law_take", none), "_law_take", "_law_take", defArgs s__law_take, defBody s__law_take, defScope s__law_take, [], []⟩,
  ⟨("_law_tags", none), "_law_tags", "_law_tags", defArgs s__law_tags, defBody s__law_tags, defScope s__law_tags, [], []⟩,
  ⟨("_law_eater", none), "_law_eater", "_law_eater", defArgs s__law_eater, defBody s__law_eater, defScope s__law_eater, [], []⟩,
  ⟨("_law_made", none), "_law_made", "_law_made", defArgs s__law_made, defBody s__law_made, defScope s__law_made, [], []⟩,
  ⟨("_law_words", none), "_law_words", "_law_words", defArgs s__law_words, defBody s__law_words, defScope s__law_words, [], []⟩,
  ⟨("_law_copy", none), "_law_copy", "_law_copy", defArgs s__law_copy, defBody s__law_copy, defScope s__law_copy, [], []⟩,
  ⟨("_law_near", none), "_law_near", "_law_near", defArgs s__law_near, defBody s__law_near, defScope s__law_near, [], []⟩,
  ⟨("_law_least_parting", none), "_law_least_parting", "_law_least_parting", defArgs s__law_least_parting, defBody s__law_least_parting, defScope s__law_least_parting, [], []⟩,
  ⟨("law", none), "law", "law", defArgs s_law, defBody s_law, defScope s_law, [], []⟩,
  ⟨("Eater", some "__init__"), "__init__", "Eater.__init__", defArgs s_Eater___init__, defBody s_Eater___init__, defScope s_Eater___init__, [], []⟩,
  ⟨("Eater", some "__len__"), "__len__", "Eater.__len__", defArgs s_Eater___len__, defBody s_Eater___len__, defScope s_Eater___len__, [], []⟩,
  ⟨("Eater", some "__eq__"), "__eq__", "Eater.__eq__", defArgs s_Eater___eq__, defBody s_Eater___eq__, defScope s_Eater___eq__, [], []⟩,
  ⟨("Eater", some "__contains__"), "__contains__", "Eater.__contains__", defArgs s_Eater___contains__, defBody s_Eater___contains__, defScope s_Eater___contains__, [], []⟩,
  ⟨("Eater", some "tags"), "tags", "Eater.tags", defArgs s_Eater_tags, defBody s_Eater_tags, defScope s_Eater_tags, [], []⟩,
  ⟨("Eater", some "standings"), "standings", "Eater.standings", defArgs s_Eater_standings, defBody s_Eater_standings, defScope s_Eater_standings, [], []⟩,
  ⟨("Eater", some "on"), "on", "Eater.on", defArgs s_Eater_on, defBody s_Eater_on, defScope s_Eater_on, [], []⟩,
  ⟨("Eater", some "settled"), "settled", "Eater.settled", defArgs s_Eater_settled, defBody s_Eater_settled, defScope s_Eater_settled, [], []⟩,
  ⟨("Eater", some "then"), "then", "Eater.then", defArgs s_Eater_then, defBody s_Eater_then, defScope s_Eater_then, [], []⟩,
  ⟨("Eater", some "power"), "power", "Eater.power", defArgs s_Eater_power, defBody s_Eater_power, defScope s_Eater_power, [], []⟩]
def fas : List He.Fa := [.free "abs", .free "all", .free "any", .free "bool", .free "enumerate", .free "int", .free "isinstance", .free "len", .free "list", .free "max", .free "range", .free "sorted", .free "str", .free "tuple", .free "zip", .str "LETTERS" "abcdefghijklmnopqrstuvwxyz", .int "MOST_LETTERS" 8, .int "MOST_TAGS" 6, .int "MOST_STANDINGS" 30, .int "LONGEST_WORD" 8, .int "LONGEST_SUBJECT" 200, .int "LARGEST" 200, .glo "_wall", .glo "is_number", .glo "is_list", .glo "is_name", .glo "is_tag", .glo "is_subject", .glo "is_standing", .glo "check_tags", .glo "check_word", .glo "check_standings", .glo "no_ways", .glo "walked", .glo "made", .glo "is_settled_at", .glo "is_made_at", .glo "copied", .glo "without_needless_ways", .glo "numbered", .glo "parted", .glo "alike_classes", .glo "in_order_met", .glo "least_form", .glo "moved", .glo "one_behind_other", .glo "stepped", .glo "way_back", .glo "parting_word", .glo "eater_of", .glo "small_form", .glo "check_same_tags", .glo "parting", .glo "_law_mixed", .glo "_law_pile", .glo "_law_take", .glo "_law_tags", .glo "_law_eater", .glo "_law_made", .glo "_law_words", .glo "_law_copy", .glo "_law_near", .glo "_law_least_parting", .glo "law", .glo "Eater", .cls "Eater", .meth "Eater" "__len__", .meth "Eater" "__eq__", .meth "Eater" "__contains__", .meth "Eater" "tags", .meth "Eater" "standings", .meth "Eater" "on", .meth "Eater" "settled", .meth "Eater" "then", .meth "Eater" "power", .mkr "Eater", .noat "Eater" "_standings", .noat "Eater" "_tags"]
def exB (K : PySem.W.Frag) : Bool := QE.ownB K (He.ga K "Eater")
theorem tx_mk {K : PySem.W.Frag} {h : Heap} {mg : Str → Option Value} (X0 : K.In h) (G : h.Ns mainGlobals mg) (c : He.SaysD fas dds K) (ce_Eater : exB K = true) : ∃ X : TX K mg, X.lam_c = He.codeOf K ("without_needless_ways", none) ∧ X.lam_P = He.tabOf K (He.codeOf K ("without_needless_ways", none)) ∧ X.d_law.a = He.ga K "law" := by
  obtain ⟨fd0, F0⟩ := c.def_ 0 (d := ⟨("_wall", none), "_wall", "_wall", defArgs s__wall, defBody s__wall, defScope s__wall, [], []⟩) rfl
  have F0 : L2.Fun K "_wall" "_wall" s__wall (He.fAd K ("_wall", none)) fd0 := QE.funD_fun F0
  obtain ⟨fd1, F1⟩ := c.def_ 1 (d := ⟨("is_number", none), "is_number", "is_number", defArgs s_is_number, defBody s_is_number, defScope s_is_number, [], []⟩) rfl
  have F1 : L2.Fun K "is_number" "is_number" s_is_number (He.fAd K ("is_number", none)) fd1 := QE.funD_fun F1
  obtain ⟨fd2, F2⟩ := c.def_ 2 (d := ⟨("is_list", none), "is_list", "is_list", defArgs s_is_list, defBody s_is_list, defScope s_is_list, [], []⟩) rfl
  have F2 : L2.Fun K "is_list" "is_list" s_is_list (He.fAd K ("is_list", none)) fd2 := QE.funD_fun F2
  obtain ⟨fd3, F3⟩ := c.def_ 3 (d := ⟨("is_name", none), "is_name", "is_name", defArgs s_is_name, defBody s_is_name, defScope s_is_name, [], []⟩) rfl
  have F3 : L2.Fun K "is_name" "is_name" s_is_name (He.fAd K ("is_name", none)) fd3 := QE.funD_fun F3
  obtain ⟨fd4, F4⟩ := c.def_ 4 (d := ⟨("is_tag", none), "is_tag", "is_tag", defArgs s_is_tag, defBody s_is_tag, defScope s_is_tag, [], []⟩) rfl
  have F4 : L2.Fun K "is_tag" "is_tag" s_is_tag (He.fAd K ("is_tag", none)) fd4 := QE.funD_fun F4
  obtain ⟨fd5, F5⟩ := c.def_ 5 (d := ⟨("is_subject", none), "is_subject", "is_subject", defArgs s_is_subject, defBody s_is_subject, defScope s_is_subject, [], []⟩) rfl
  have F5 : L2.Fun K "is_subject" "is_subject" s_is_subject (He.fAd K ("is_subject", none)) fd5 := QE.funD_fun F5
  obtain ⟨fd6, F6⟩ := c.def_ 6 (d := ⟨("is_standing", none), "is_standing", "is_standing", defArgs s_is_standing, defBody s_is_standing, defScope s_is_standing, [], []⟩) rfl
  have F6 : L2.Fun K "is_standing" "is_standing" s_is_standing (He.fAd K ("is_standing", none)) fd6 := QE.funD_fun F6
  obtain ⟨fd7, F7⟩ := c.def_ 7 (d := ⟨("check_tags", none), "check_tags", "check_tags", defArgs s_check_tags, defBody s_check_tags, defScope s_check_tags, [], []⟩) rfl
  have F7 : L2.Fun K "check_tags" "check_tags" s_check_tags (He.fAd K ("check_tags", none)) fd7 := QE.funD_fun F7
  obtain ⟨fd8, F8⟩ := c.def_ 8 (d := ⟨("check_word", none), "check_word", "check_word", defArgs s_check_word, defBody s_check_word, defScope s_check_word, [], []⟩) rfl
  have F8 : L2.Fun K "check_word" "check_word" s_check_word (He.fAd K ("check_word", none)) fd8 := QE.funD_fun F8
  obtain ⟨fd9, F9⟩ := c.def_ 9 (d := ⟨("check_standings", none), "check_standings", "check_standings", defArgs s_check_standings, defBody s_check_standings, defScope s_check_standings, [], []⟩) rfl
  have F9 : L2.Fun K "check_standings" "check_standings" s_check_standings (He.fAd K ("check_standings", none)) fd9 := QE.funD_fun F9
  obtain ⟨fd10, F10⟩ := c.def_ 10 (d := ⟨("no_ways", none), "no_ways", "no_ways", defArgs s_no_ways, defBody s_no_ways, defScope s_no_ways, [], []⟩) rfl
  have F10 : L2.Fun K "no_ways" "no_ways" s_no_ways (He.fAd K ("no_ways", none)) fd10 := QE.funD_fun F10
  obtain ⟨fd11, F11⟩ := c.def_ 11 (d := ⟨("walked", none), "walked", "walked", defArgs s_walked, defBody s_walked, defScope s_walked, [], []⟩) rfl
  have F11 : L2.Fun K "walked" "walked" s_walked (He.fAd K ("walked", none)) fd11 := QE.funD_fun F11
  obtain ⟨fd12, F12⟩ := c.def_ 12 (d := ⟨("made", none), "made", "made", defArgs s_made, defBody s_made, defScope s_made, [], []⟩) rfl
  have F12 : L2.Fun K "made" "made" s_made (He.fAd K ("made", none)) fd12 := QE.funD_fun F12
  obtain ⟨fd13, F13⟩ := c.def_ 13 (d := ⟨("is_settled_at", none), "is_settled_at", "is_settled_at", defArgs s_is_settled_at, defBody s_is_settled_at, defScope s_is_settled_at, [], []⟩) rfl
  have F13 : L2.Fun K "is_settled_at" "is_settled_at" s_is_settled_at (He.fAd K ("is_settled_at", none)) fd13 := QE.funD_fun F13
  obtain ⟨fd14, F14⟩ := c.def_ 14 (d := ⟨("is_made_at", none), "is_made_at", "is_made_at", defArgs s_is_made_at, defBody s_is_made_at, defScope s_is_made_at, [], []⟩) rfl
  have F14 : L2.Fun K "is_made_at" "is_made_at" s_is_made_at (He.fAd K ("is_made_at", none)) fd14 := QE.funD_fun F14
  obtain ⟨fd15, F15⟩ := c.def_ 15 (d := ⟨("copied", none), "copied", "copied", defArgs s_copied, defBody s_copied, defScope s_copied, [], []⟩) rfl
  have F15 : L2.Fun K "copied" "copied" s_copied (He.fAd K ("copied", none)) fd15 := QE.funD_fun F15
  obtain ⟨fd16, F16⟩ := c.def_ 16 (d := ⟨("without_needless_ways", none), "without_needless_ways", "without_needless_ways", defArgs s_without_needless_ways, defBody s_without_needless_ways, defScope s_without_needless_ways, [], []⟩) rfl
  have G16 : QB.FunC K "without_needless_ways" "without_needless_ways" s_without_needless_ways (He.fAd K ("without_needless_ways", none)) fd16 (He.codeOf K ("without_needless_ways", none)) := QE.funC_of F16
  have F16 : L2.Fun K "without_needless_ways" "without_needless_ways" s_without_needless_ways (He.fAd K ("without_needless_ways", none)) fd16 := QE.funD_fun F16
  obtain ⟨fd17, F17⟩ := c.def_ 17 (d := ⟨("numbered", none), "numbered", "numbered", defArgs s_numbered, defBody s_numbered, defScope s_numbered, [], []⟩) rfl
  have F17 : L2.Fun K "numbered" "numbered" s_numbered (He.fAd K ("numbered", none)) fd17 := QE.funD_fun F17
  obtain ⟨fd18, F18⟩ := c.def_ 18 (d := ⟨("parted", none), "parted", "parted", defArgs s_parted, defBody s_parted, defScope s_parted, [], []⟩) rfl
  have F18 : L2.Fun K "parted" "parted" s_parted (He.fAd K ("parted", none)) fd18 := QE.funD_fun F18
  obtain ⟨fd19, F19⟩ := c.def_ 19 (d := ⟨("alike_classes", none), "alike_classes", "alike_classes", defArgs s_alike_classes, defBody s_alike_classes, defScope s_alike_classes, [], []⟩) rfl
  have F19 : L2.Fun K "alike_classes" "alike_classes" s_alike_classes (He.fAd K ("alike_classes", none)) fd19 := QE.funD_fun F19
  obtain ⟨fd20, F20⟩ := c.def_ 20 (d := ⟨("in_order_met", none), "in_order_met", "in_order_met", defArgs s_in_order_met, defBody s_in_order_met, defScope s_in_order_met, [], []⟩) rfl
  have F20 : L2.Fun K "in_order_met" "in_order_met" s_in_order_met (He.fAd K ("in_order_met", none)) fd20 := QE.funD_fun F20
  obtain ⟨fd21, F21⟩ := c.def_ 21 (d := ⟨("least_form", none), "least_form", "least_form", defArgs s_least_form, defBody s_least_form, defScope s_least_form, [], []⟩) rfl
  have F21 : L2.Fun K "least_form" "least_form" s_least_form (He.fAd K ("least_form", none)) fd21 := QE.funD_fun F21
  obtain ⟨fd22, F22⟩ := c.def_ 22 (d := ⟨("moved", none), "moved", "moved", defArgs s_moved, defBody s_moved, defScope s_moved, [], []⟩) rfl
  have F22 : L2.Fun K "moved" "moved" s_moved (He.fAd K ("moved", none)) fd22 := QE.funD_fun F22
  obtain ⟨fd23, F23⟩ := c.def_ 23 (d := ⟨("one_behind_other", none), "one_behind_other", "one_behind_other", defArgs s_one_behind_other, defBody s_one_behind_other, defScope s_one_behind_other, [], []⟩) rfl
  have F23 : L2.Fun K "one_behind_other" "one_behind_other" s_one_behind_other (He.fAd K ("one_behind_other", none)) fd23 := QE.funD_fun F23
  obtain ⟨fd24, F24⟩ := c.def_ 24 (d := ⟨("stepped", none), "stepped", "stepped", defArgs s_stepped, defBody s_stepped, defScope s_stepped, [], []⟩) rfl
  have F24 : L2.Fun K "stepped" "stepped" s_stepped (He.fAd K ("stepped", none)) fd24 := QE.funD_fun F24
  obtain ⟨fd25, F25⟩ := c.def_ 25 (d := ⟨("way_back", none), "way_back", "way_back", defArgs s_way_back, defBody s_way_back, defScope s_way_back, [], []⟩) rfl
  have F25 : L2.Fun K "way_back" "way_back" s_way_back (He.fAd K ("way_back", none)) fd25 := QE.funD_fun F25
  obtain ⟨fd26, F26⟩ := c.def_ 26 (d := ⟨("parting_word", none), "parting_word", "parting_word", defArgs s_parting_word, defBody s_parting_word, defScope s_parting_word, [], []⟩) rfl
  have F26 : L2.Fun K "parting_word" "parting_word" s_parting_word (He.fAd K ("parting_word", none)) fd26 := QE.funD_fun F26
  obtain ⟨fd27, F27⟩ := c.def_ 27 (d := ⟨("eater_of", none), "eater_of", "eater_of", defArgs s_eater_of, defBody s_eater_of, defScope s_eater_of, [], []⟩) rfl
  have F27 : L2.Fun K "eater_of" "eater_of" s_eater_of (He.fAd K ("eater_of", none)) fd27 := QE.funD_fun F27
  obtain ⟨fd28, F28⟩ := c.def_ 28 (d := ⟨("small_form", none), "small_form", "small_form", defArgs s_small_form, defBody s_small_form, defScope s_small_form, [], []⟩) rfl
  have F28 : L2.Fun K "small_form" "small_form" s_small_form (He.fAd K ("small_form", none)) fd28 := QE.funD_fun F28
  obtain ⟨fd29, F29⟩ := c.def_ 29 (d := ⟨("check_same_tags", none), "check_same_tags", "check_same_tags", defArgs s_check_same_tags, defBody s_check_same_tags, defScope s_check_same_tags, [], []⟩) rfl
  have F29 : L2.Fun K "check_same_tags" "check_same_tags" s_check_same_tags (He.fAd K ("check_same_tags", none)) fd29 := QE.funD_fun F29
  obtain ⟨fd30, F30⟩ := c.def_ 30 (d := ⟨("parting", none), "parting", "parting", defArgs s_parting, defBody s_parting, defScope s_parting, [], []⟩) rfl
  have F30 : L2.Fun K "parting" "parting" s_parting (He.fAd K ("parting", none)) fd30 := QE.funD_fun F30
  obtain ⟨fd31, F31⟩ := c.def_ 31 (d := ⟨("_law_mixed", none), "_law_mixed", "_law_mixed", defArgs s__law_mixed, defBody s__law_mixed, defScope s__law_mixed, [], []⟩) rfl
  have F31 : L2.Fun K "_law_mixed" "_law_mixed" s__law_mixed (He.fAd K ("_law_mixed", none)) fd31 := QE.funD_fun F31
  obtain ⟨fd32, F32⟩ := c.def_ 32 (d := ⟨("_law_pile", none), "_law_pile", "_law_pile", defArgs s__law_pile, defBody s__law_pile, defScope s__law_pile, [], []⟩) rfl
  have F32 : L2.Fun K "_law_pile" "_law_pile" s__law_pile (He.fAd K ("_law_pile", none)) fd32 := QE.funD_fun F32
  obtain ⟨fd33, F33⟩ := c.def_ 33 (d := ⟨("_law_take", none), "_law_take", "_law_take", defArgs s__law_take, defBody s__law_take, defScope s__law_take, [], []⟩) rfl
  have F33 : L2.Fun K "_law_take" "_law_take" s__law_take (He.fAd K ("_law_take", none)) fd33 := QE.funD_fun F33
  obtain ⟨fd34, F34⟩ := c.def_ 34 (d := ⟨("_law_tags", none), "_law_tags", "_law_tags", defArgs s__law_tags, defBody s__law_tags, defScope s__law_tags, [], []⟩) rfl
  have F34 : L2.Fun K "_law_tags" "_law_tags" s__law_tags (He.fAd K ("_law_tags", none)) fd34 := QE.funD_fun F34
  obtain ⟨fd35, F35⟩ := c.def_ 35 (d := ⟨("_law_eater", none), "_law_eater", "_law_eater", defArgs s__law_eater, defBody s__law_eater, defScope s__law_eater, [], []⟩) rfl
  have F35 : L2.Fun K "_law_eater" "_law_eater" s__law_eater (He.fAd K ("_law_eater", none)) fd35 := QE.funD_fun F35
  obtain ⟨fd36, F36⟩ := c.def_ 36 (d := ⟨("_law_made", none), "_law_made", "_law_made", defArgs s__law_made, defBody s__law_made, defScope s__law_made, [], []⟩) rfl
  have F36 : L2.Fun K "_law_made" "_law_made" s__law_made (He.fAd K ("_law_made", none)) fd36 := QE.funD_fun F36
  obtain ⟨fd37, F37⟩ := c.def_ 37 (d := ⟨("_law_words", none), "_law_words", "_law_words", defArgs s__law_words, defBody s__law_words, defScope s__law_words, [], []⟩) rfl
  have F37 : L2.Fun K "_law_words" "_law_words" s__law_words (He.fAd K ("_law_words", none)) fd37 := QE.funD_fun F37
  obtain ⟨fd38, F38⟩ := c.def_ 38 (d := ⟨("_law_copy", none), "_law_copy", "_law_copy", defArgs s__law_copy, defBody s__law_copy, defScope s__law_copy, [], []⟩) rfl
  have F38 : L2.Fun K "_law_copy" "_law_copy" s__law_copy (He.fAd K ("_law_copy", none)) fd38 := QE.funD_fun F38
  obtain ⟨fd39, F39⟩ := c.def_ 39 (d := ⟨("_law_near", none), "_law_near", "_law_near", defArgs s__law_near, defBody s__law_near, defScope s__law_near, [], []⟩) rfl
  have F39 : L2.Fun K "_law_near" "_law_near" s__law_near (He.fAd K ("_law_near", none)) fd39 := QE.funD_fun F39
  obtain ⟨fd40, F40⟩ := c.def_ 40 (d := ⟨("_law_least_parting", none), "_law_least_parting", "_law_least_parting", defArgs s__law_least_parting, defBody s__law_least_parting, defScope s__law_least_parting, [], []⟩) rfl
  have F40 : L2.Fun K "_law_least_parting" "_law_least_parting" s__law_least_parting (He.fAd K ("_law_least_parting", none)) fd40 := QE.funD_fun F40
  obtain ⟨fd41, F41⟩ := c.def_ 41 (d := ⟨("law", none), "law", "law", defArgs s_law, defBody s_law, defScope s_law, [], []⟩) rfl
  have F41 : L2.Fun K "law" "law" s_law (He.fAd K ("law", none)) fd41 := QE.funD_fun F41
  obtain ⟨fd42, F42⟩ := c.def_ 42 (d := ⟨("Eater", some "__init__"), "__init__", "Eater.__init__", defArgs s_Eater___init__, defBody s_Eater___init__, defScope s_Eater___init__, [], []⟩) rfl
  have F42 : L2.Fun K "__init__" "Eater.__init__" s_Eater___init__ (He.fAd K ("Eater", some "__init__")) fd42 := QE.funD_fun F42
  obtain ⟨fd43, F43⟩ := c.def_ 43 (d := ⟨("Eater", some "__len__"), "__len__", "Eater.__len__", defArgs s_Eater___len__, defBody s_Eater___len__, defScope s_Eater___len__, [], []⟩) rfl
  have F43 : L2.Fun K "__len__" "Eater.__len__" s_Eater___len__ (He.fAd K ("Eater", some "__len__")) fd43 := QE.funD_fun F43
  obtain ⟨fd44, F44⟩ := c.def_ 44 (d := ⟨("Eater", some "__eq__"), "__eq__", "Eater.__eq__", defArgs s_Eater___eq__, defBody s_Eater___eq__, defScope s_Eater___eq__, [], []⟩) rfl
  have F44 : L2.Fun K "__eq__" "Eater.__eq__" s_Eater___eq__ (He.fAd K ("Eater", some "__eq__")) fd44 := QE.funD_fun F44
  obtain ⟨fd45, F45⟩ := c.def_ 45 (d := ⟨("Eater", some "__contains__"), "__contains__", "Eater.__contains__", defArgs s_Eater___contains__, defBody s_Eater___contains__, defScope s_Eater___contains__, [], []⟩) rfl
  have F45 : L2.Fun K "__contains__" "Eater.__contains__" s_Eater___contains__ (He.fAd K ("Eater", some "__contains__")) fd45 := QE.funD_fun F45
  obtain ⟨fd46, F46⟩ := c.def_ 46 (d := ⟨("Eater", some "tags"), "tags", "Eater.tags", defArgs s_Eater_tags, defBody s_Eater_tags, defScope s_Eater_tags, [], []⟩) rfl
  have F46 : L2.Fun K "tags" "Eater.tags" s_Eater_tags (He.fAd K ("Eater", some "tags")) fd46 := QE.funD_fun F46
  obtain ⟨fd47, F47⟩ := c.def_ 47 (d := ⟨("Eater", some "standings"), "standings", "Eater.standings", defArgs s_Eater_standings, defBody s_Eater_standings, defScope s_Eater_standings, [], []⟩) rfl
  have F47 : L2.Fun K "standings" "Eater.standings" s_Eater_standings (He.fAd K ("Eater", some "standings")) fd47 := QE.funD_fun F47
  obtain ⟨fd48, F48⟩ := c.def_ 48 (d := ⟨("Eater", some "on"), "on", "Eater.on", defArgs s_Eater_on, defBody s_Eater_on, defScope s_Eater_on, [], []⟩) rfl
  have F48 : L2.Fun K "on" "Eater.on" s_Eater_on (He.fAd K ("Eater", some "on")) fd48 := QE.funD_fun F48
  obtain ⟨fd49, F49⟩ := c.def_ 49 (d := ⟨("Eater", some "settled"), "settled", "Eater.settled", defArgs s_Eater_settled, defBody s_Eater_settled, defScope s_Eater_settled, [], []⟩) rfl
  have F49 : L2.Fun K "settled" "Eater.settled" s_Eater_settled (He.fAd K ("Eater", some "settled")) fd49 := QE.funD_fun F49
  obtain ⟨fd50, F50⟩ := c.def_ 50 (d := ⟨("Eater", some "then"), "then", "Eater.then", defArgs s_Eater_then, defBody s_Eater_then, defScope s_Eater_then, [], []⟩) rfl
  have F50 : L2.Fun K "then" "Eater.then" s_Eater_then (He.fAd K ("Eater", some "then")) fd50 := QE.funD_fun F50
  obtain ⟨fd51, F51⟩ := c.def_ 51 (d := ⟨("Eater", some "power"), "power", "Eater.power", defArgs s_Eater_power, defBody s_Eater_power, defScope s_Eater_power, [], []⟩) rfl
  have F51 : L2.Fun K "power" "Eater.power" s_Eater_power (He.fAd K ("Eater", some "power")) fd51 := QE.funD_fun F51
  exact ⟨{
    n_abs := He.free_ok X0 G (c.fact 0 (f := .free "abs") rfl),
    n_all := He.free_ok X0 G (c.fact 1 (f := .free "all") rfl),
    n_any := He.free_ok X0 G (c.fact 2 (f := .free "any") rfl),
    n_bool := He.free_ok X0 G (c.fact 3 (f := .free "bool") rfl),
    n_enumerate := He.free_ok X0 G (c.fact 4 (f := .free "enumerate") rfl),
    n_int := He.free_ok X0 G (c.fact 5 (f := .free "int") rfl),
    n_isinstance := He.free_ok X0 G (c.fact 6 (f := .free "isinstance") rfl),
    n_len := He.free_ok X0 G (c.fact 7 (f := .free "len") rfl),
    n_list := He.free_ok X0 G (c.fact 8 (f := .free "list") rfl),
    n_max := He.free_ok X0 G (c.fact 9 (f := .free "max") rfl),
    n_range := He.free_ok X0 G (c.fact 10 (f := .free "range") rfl),
    n_sorted := He.free_ok X0 G (c.fact 11 (f := .free "sorted") rfl),
    n_str := He.free_ok X0 G (c.fact 12 (f := .free "str") rfl),
    n_tuple := He.free_ok X0 G (c.fact 13 (f := .free "tuple") rfl),
    n_zip := He.free_ok X0 G (c.fact 14 (f := .free "zip") rfl),
    c_LETTERS := (let ⟨t, h⟩ := He.str_ok X0 G (c.fact 15 (f := .str "LETTERS" "abcdefghijklmnopqrstuvwxyz") rfl); ⟨_, h, t, rfl⟩),
    c_MOST_LETTERS := (let ⟨t, h⟩ := He.int_ok X0 G (c.fact 16 (f := .int "MOST_LETTERS" 8) rfl); ⟨_, h, t, rfl⟩),
    c_MOST_TAGS := (let ⟨t, h⟩ := He.int_ok X0 G (c.fact 17 (f := .int "MOST_TAGS" 6) rfl); ⟨_, h, t, rfl⟩),
    c_MOST_STANDINGS := (let ⟨t, h⟩ := He.int_ok X0 G (c.fact 18 (f := .int "MOST_STANDINGS" 30) rfl); ⟨_, h, t, rfl⟩),
    c_LONGEST_WORD := (let ⟨t, h⟩ := He.int_ok X0 G (c.fact 19 (f := .int "LONGEST_WORD" 8) rfl); ⟨_, h, t, rfl⟩),
    c_LONGEST_SUBJECT := (let ⟨t, h⟩ := He.int_ok X0 G (c.fact 20 (f := .int "LONGEST_SUBJECT" 200) rfl); ⟨_, h, t, rfl⟩),
    c_LARGEST := (let ⟨t, h⟩ := He.int_ok X0 G (c.fact 21 (f := .int "LARGEST" 200) rfl); ⟨_, h, t, rfl⟩),
    d__wall := { a := He.fAd K ("_wall", none), fd := fd0, F := F0, b := F0.binds fun _ _ _ _ _ _ us hl => match us, hl with | [_], _ => rfl, mg := He.glo_ok X0 G (c.fact 22 (f := .glo "_wall") rfl) },
    d_is_number := { a := He.fAd K ("is_number", none), fd := fd1, F := F1, b := F1.binds fun _ _ _ _ _ _ us hl => match us, hl with | [_, _, _], _ => rfl, mg := He.glo_ok X0 G (c.fact 23 (f := .glo "is_number") rfl) },
    d_is_list := { a := He.fAd K ("is_list", none), fd := fd2, F := F2, b := F2.binds fun _ _ _ _ _ _ us hl => match us, hl with | [_, _, _], _ => rfl, mg := He.glo_ok X0 G (c.fact 24 (f := .glo "is_list") rfl) },
    d_is_name := { a := He.fAd K ("is_name", none), fd := fd3, F := F3, b := F3.binds fun _ _ _ _ _ _ us hl => match us, hl with | [_], _ => rfl, mg := He.glo_ok X0 G (c.fact 25 (f := .glo "is_name") rfl) },
    d_is_tag := { a := He.fAd K ("is_tag", none), fd := fd4, F := F4, b := F4.binds fun _ _ _ _ _ _ us hl => match us, hl with | [_, _], _ => rfl, mg := He.glo_ok X0 G (c.fact 26 (f := .glo "is_tag") rfl) },
    d_is_subject := { a := He.fAd K ("is_subject", none), fd := fd5, F := F5, b := F5.binds fun _ _ _ _ _ _ us hl => match us, hl with | [_, _], _ => rfl, mg := He.glo_ok X0 G (c.fact 27 (f := .glo "is_subject") rfl) },
    d_is_standing := { a := He.fAd K ("is_standing", none), fd := fd6, F := F6, b := F6.binds fun _ _ _ _ _ _ us hl => match us, hl with | [_, _, _], _ => rfl, mg := He.glo_ok X0 G (c.fact 28 (f := .glo "is_standing") rfl) },
    d_check_tags := { a := He.fAd K ("check_tags", none), fd := fd7, F := F7, b := F7.binds fun _ _ _ _ _ _ us hl => match us, hl with | [_], _ => rfl, mg := He.glo_ok X0 G (c.fact 29 (f := .glo "check_tags") rfl) },
    d_check_word := { a := He.fAd K ("check_word", none), fd := fd8, F := F8, b := F8.binds fun _ _ _ _ _ _ us hl => match us, hl with | [_, _, _], _ => rfl, mg := He.glo_ok X0 G (c.fact 30 (f := .glo "check_word") rfl) },
    d_check_standings := { a := He.fAd K ("check_standings", none), fd := fd9, F := F9, b := F9.binds fun _ _ _ _ _ _ us hl => match us, hl with | [_, _], _ => rfl, mg := He.glo_ok X0 G (c.fact 31 (f := .glo "check_standings") rfl) },
    d_no_ways := { a := He.fAd K ("no_ways", none), fd := fd10, F := F10, b := F10.binds fun _ _ _ _ _ _ us hl => match us, hl with | [_], _ => rfl, mg := He.glo_ok X0 G (c.fact 32 (f := .glo "no_ways") rfl) },
    d_walked := { a := He.fAd K ("walked", none), fd := fd11, F := F11, b := F11.binds fun _ _ _ _ _ _ us hl => match us, hl with | [_, _, _], _ => rfl, mg := He.glo_ok X0 G (c.fact 33 (f := .glo "walked") rfl) },
    d_made := { a := He.fAd K ("made", none), fd := fd12, F := F12, b := F12.binds fun _ _ _ _ _ _ us hl => match us, hl with | [_, _, _], _ => rfl, mg := He.glo_ok X0 G (c.fact 34 (f := .glo "made") rfl) },
    d_is_settled_at := { a := He.fAd K ("is_settled_at", none), fd := fd13, F := F13, b := F13.binds fun _ _ _ _ _ _ us hl => match us, hl with | [_], _ => rfl, mg := He.glo_ok X0 G (c.fact 35 (f := .glo "is_settled_at") rfl) },
    d_is_made_at := { a := He.fAd K ("is_made_at", none), fd := fd14, F := F14, b := F14.binds fun _ _ _ _ _ _ us hl => match us, hl with | [_, _, _], _ => rfl, mg := He.glo_ok X0 G (c.fact 36 (f := .glo "is_made_at") rfl) },
    d_copied := { a := He.fAd K ("copied", none), fd := fd15, F := F15, b := F15.binds fun _ _ _ _ _ _ us hl => match us, hl with | [_], _ => rfl, mg := He.glo_ok X0 G (c.fact 37 (f := .glo "copied") rfl) },
    d_without_needless_ways := { a := He.fAd K ("without_needless_ways", none), fd := fd16, F := F16, b := F16.binds fun _ _ _ _ _ _ us hl => match us, hl with | [_, _], _ => rfl, mg := He.glo_ok X0 G (c.fact 38 (f := .glo "without_needless_ways") rfl) },
    d_numbered := { a := He.fAd K ("numbered", none), fd := fd17, F := F17, b := F17.binds fun _ _ _ _ _ _ us hl => match us, hl with | [_], _ => rfl, mg := He.glo_ok X0 G (c.fact 39 (f := .glo "numbered") rfl) },
    d_parted := { a := He.fAd K ("parted", none), fd := fd18, F := F18, b := F18.binds fun _ _ _ _ _ _ us hl => match us, hl with | [_, _], _ => rfl, mg := He.glo_ok X0 G (c.fact 40 (f := .glo "parted") rfl) },
    d_alike_classes := { a := He.fAd K ("alike_classes", none), fd := fd19, F := F19, b := F19.binds fun _ _ _ _ _ _ us hl => match us, hl with | [_], _ => rfl, mg := He.glo_ok X0 G (c.fact 41 (f := .glo "alike_classes") rfl) },
    d_in_order_met := { a := He.fAd K ("in_order_met", none), fd := fd20, F := F20, b := F20.binds fun _ _ _ _ _ _ us hl => match us, hl with | [_, _], _ => rfl, mg := He.glo_ok X0 G (c.fact 42 (f := .glo "in_order_met") rfl) },
    d_least_form := { a := He.fAd K ("least_form", none), fd := fd21, F := F21, b := F21.binds fun _ _ _ _ _ _ us hl => match us, hl with | [_, _], _ => rfl, mg := He.glo_ok X0 G (c.fact 43 (f := .glo "least_form") rfl) },
    d_moved := { a := He.fAd K ("moved", none), fd := fd22, F := F22, b := F22.binds fun _ _ _ _ _ _ us hl => match us, hl with | [_, _], _ => rfl, mg := He.glo_ok X0 G (c.fact 44 (f := .glo "moved") rfl) },
    d_one_behind_other := { a := He.fAd K ("one_behind_other", none), fd := fd23, F := F23, b := F23.binds fun _ _ _ _ _ _ us hl => match us, hl with | [_, _, _], _ => rfl, mg := He.glo_ok X0 G (c.fact 45 (f := .glo "one_behind_other") rfl) },
    d_stepped := { a := He.fAd K ("stepped", none), fd := fd24, F := F24, b := F24.binds fun _ _ _ _ _ _ us hl => match us, hl with | [_, _, _, _], _ => rfl, mg := He.glo_ok X0 G (c.fact 46 (f := .glo "stepped") rfl) },
    d_way_back := { a := He.fAd K ("way_back", none), fd := fd25, F := F25, b := F25.binds fun _ _ _ _ _ _ us hl => match us, hl with | [_, _], _ => rfl, mg := He.glo_ok X0 G (c.fact 47 (f := .glo "way_back") rfl) },
    d_parting_word := { a := He.fAd K ("parting_word", none), fd := fd26, F := F26, b := F26.binds fun _ _ _ _ _ _ us hl => match us, hl with | [_, _, _], _ => rfl, mg := He.glo_ok X0 G (c.fact 48 (f := .glo "parting_word") rfl) },
    d_eater_of := { a := He.fAd K ("eater_of", none), fd := fd27, F := F27, b := F27.binds fun _ _ _ _ _ _ us hl => match us, hl with | [_, _], _ => rfl, mg := He.glo_ok X0 G (c.fact 49 (f := .glo "eater_of") rfl) },
    d_small_form := { a := He.fAd K ("small_form", none), fd := fd28, F := F28, b := F28.binds fun _ _ _ _ _ _ us hl => match us, hl with | [_], _ => rfl, mg := He.glo_ok X0 G (c.fact 50 (f := .glo "small_form") rfl) },
    d_check_same_tags := { a := He.fAd K ("check_same_tags", none), fd := fd29, F := F29, b := F29.binds fun _ _ _ _ _ _ us hl => match us, hl with | [_, _], _ => rfl, mg := He.glo_ok X0 G (c.fact 51 (f := .glo "check_same_tags") rfl) },
    d_parting := { a := He.fAd K ("parting", none), fd := fd30, F := F30, b := F30.binds fun _ _ _ _ _ _ us hl => match us, hl with | [_, _], _ => rfl, mg := He.glo_ok X0 G (c.fact 52 (f := .glo "parting") rfl) },
    d__law_mixed := { a := He.fAd K ("_law_mixed", none), fd := fd31, F := F31, b := F31.binds fun _ _ _ _ _ _ us hl => match us, hl with | [_, _], _ => rfl, mg := He.glo_ok X0 G (c.fact 53 (f := .glo "_law_mixed") rfl) },
    d__law_pile := { a := He.fAd K ("_law_pile", none), fd := fd32, F := F32, b := F32.binds fun _ _ _ _ _ _ us hl => match us, hl with | [_, _], _ => rfl, mg := He.glo_ok X0 G (c.fact 54 (f := .glo "_law_pile") rfl) },
    d__law_take := { a := He.fAd K ("_law_take", none), fd := fd33, F := F33, b := F33.binds fun _ _ _ _ _ _ us hl => match us, hl with | [_, _], _ => rfl, mg := He.glo_ok X0 G (c.fact 55 (f := .glo "_law_take") rfl) },
    d__law_tags := { a := He.fAd K ("_law_tags", none), fd := fd34, F := F34, b := F34.binds fun _ _ _ _ _ _ us hl => match us, hl with | [_, _], _ => rfl, mg := He.glo_ok X0 G (c.fact 56 (f := .glo "_law_tags") rfl) },
    d__law_eater := { a := He.fAd K ("_law_eater", none), fd := fd35, F := F35, b := F35.binds fun _ _ _ _ _ _ us hl => match us, hl with | [_, _, _, _], _ => rfl, mg := He.glo_ok X0 G (c.fact 57 (f := .glo "_law_eater") rfl) },
    d__law_made := { a := He.fAd K ("_law_made", none), fd := fd36, F := F36, b := F36.binds fun _ _ _ _ _ _ us hl => match us, hl with | [_, _, _], _ => rfl, mg := He.glo_ok X0 G (c.fact 58 (f := .glo "_law_made") rfl) },
    d__law_words := { a := He.fAd K ("_law_words", none), fd := fd37, F := F37, b := F37.binds fun _ _ _ _ _ _ us hl => match us, hl with | [_, _], _ => rfl, mg := He.glo_ok X0 G (c.fact 59 (f := .glo "_law_words") rfl) },
    d__law_copy := { a := He.fAd K ("_law_copy", none), fd := fd38, F := F38, b := F38.binds fun _ _ _ _ _ _ us hl => match us, hl with | [_], _ => rfl, mg := He.glo_ok X0 G (c.fact 60 (f := .glo "_law_copy") rfl) },
    d__law_near := { a := He.fAd K ("_law_near", none), fd := fd39, F := F39, b := F39.binds fun _ _ _ _ _ _ us hl => match us, hl with | [_, _, _], _ => rfl, mg := He.glo_ok X0 G (c.fact 61 (f := .glo "_law_near") rfl) },
    d__law_least_parting := { a := He.fAd K ("_law_least_parting", none), fd := fd40, F := F40, b := F40.binds fun _ _ _ _ _ _ us hl => match us, hl with | [_, _, _, _], _ => rfl, mg := He.glo_ok X0 G (c.fact 62 (f := .glo "_law_least_parting") rfl) },
    d_law := { a := He.fAd K ("law", none), fd := fd41, F := F41, b := F41.binds fun _ _ _ _ _ _ us hl => match us, hl with | [_], _ => rfl, mg := He.glo_ok X0 G (c.fact 63 (f := .glo "law") rfl) },
    lam_c := He.codeOf K ("without_needless_ways", none),
    lam_P := He.tabOf K (He.codeOf K ("without_needless_ways", none)),
    lam_F := G16,
    c_Eater := He.ga K "Eater",
    m_Eater := He.glo_ok X0 G (c.fact 64 (f := .glo "Eater") rfl),
    cl_Eater := He.cls_ok (c.fact 65 (f := .cls "Eater") rfl),
    oc_Eater := QE.ownB_ok ce_Eater,
    d_Eater___init__ := { a := He.fAd K ("Eater", some "__init__"), fd := fd42, F := F42, b := F42.binds fun _ _ _ _ _ _ us hl => match us, hl with | [_, _, _], _ => rfl },
    d_Eater___len__ := { a := He.fAd K ("Eater", some "__len__"), fd := fd43, F := F43, b := F43.binds fun _ _ _ _ _ _ us hl => match us, hl with | [_], _ => rfl },
    h_Eater___len__ := He.meth_ok (c.fact 66 (f := .meth "Eater" "__len__") rfl),
    d_Eater___eq__ := { a := He.fAd K ("Eater", some "__eq__"), fd := fd44, F := F44, b := F44.binds fun _ _ _ _ _ _ us hl => match us, hl with | [_, _], _ => rfl },
    h_Eater___eq__ := He.meth_ok (c.fact 67 (f := .meth "Eater" "__eq__") rfl),
    d_Eater___contains__ := { a := He.fAd K ("Eater", some "__contains__"), fd := fd45, F := F45, b := F45.binds fun _ _ _ _ _ _ us hl => match us, hl with | [_, _], _ => rfl },
    h_Eater___contains__ := He.meth_ok (c.fact 68 (f := .meth "Eater" "__contains__") rfl),
    d_Eater_tags := { a := He.fAd K ("Eater", some "tags"), fd := fd46, F := F46, b := F46.binds fun _ _ _ _ _ _ us hl => match us, hl with | [_], _ => rfl },
    h_Eater_tags := He.meth_ok (c.fact 69 (f := .meth "Eater" "tags") rfl),
    d_Eater_standings := { a := He.fAd K ("Eater", some "standings"), fd := fd47, F := F47, b := F47.binds fun _ _ _ _ _ _ us hl => match us, hl with | [_], _ => rfl },
    h_Eater_standings := He.meth_ok (c.fact 70 (f := .meth "Eater" "standings") rfl),
    d_Eater_on := { a := He.fAd K ("Eater", some "on"), fd := fd48, F := F48, b := F48.binds fun _ _ _ _ _ _ us hl => match us, hl with | [_, _], _ => rfl },
    h_Eater_on := He.meth_ok (c.fact 71 (f := .meth "Eater" "on") rfl),
    d_Eater_settled := { a := He.fAd K ("Eater", some "settled"), fd := fd49, F := F49, b := F49.binds fun _ _ _ _ _ _ us hl => match us, hl with | [_, _], _ => rfl },
    h_Eater_settled := He.meth_ok (c.fact 72 (f := .meth "Eater" "settled") rfl),
    d_Eater_then := { a := He.fAd K ("Eater", some "then"), fd := fd50, F := F50, b := F50.binds fun _ _ _ _ _ _ us hl => match us, hl with | [_, _], _ => rfl },
    h_Eater_then := He.meth_ok (c.fact 73 (f := .meth "Eater" "then") rfl),
    d_Eater_power := { a := He.fAd K ("Eater", some "power"), fd := fd51, F := F51, b := F51.binds fun _ _ _ _ _ _ us hl => match us, hl with | [_, _], _ => rfl },
    h_Eater_power := He.meth_ok (c.fact 74 (f := .meth "Eater" "power") rfl),
    mk_Eater := He.mkr_ok (c.fact 75 (f := .mkr "Eater") rfl),
    na_Eater__standings := He.noat_ok (c.fact 76 (f := .noat "Eater" "_standings") rfl),
    na_Eater__tags := He.noat_ok (c.fact 77 (f := .noat "Eater" "_tags") rfl) }, rfl, rfl, rfl⟩
end Law
end

section
set_option Elab.async false
set_option linter.all false
set_option maxRecDepth 100000
set_option maxHeartbeats 0
namespace Law
open PySem PySem.Spec PyProof.Rows L2 LamX QB QM
abbrev R : PySem.W.OpenRow := PySem.W.OpenLaw.row PySem.Challenge.rw_subjecttags_k04_whole_parting_subjects
def tfs : List He.Defn := [("without_needless_ways", none)]
abbrev hk : PySem.W.Hook := He.hookX 5 fas dds [] tfs exB
def ob (s : PySem.W.SharedT) : He.AlX := He.obsX 5 fas dds [] tfs exB (HandSHeadRun.getT s)
theorem ob_eq (s : PySem.W.SharedT) : ob s = hk.obs s.abs := He.obsX_eq (HandSHeadRun.getT_eq s)
def names : List Str := (["_wall", "TagError", "InvalidTags", "InvalidSubject", "InvalidEater", "UnlikeTags", "TooMany", "LETTERS", "MOST_LETTERS", "MOST_TAGS", "MOST_STANDINGS", "LONGEST_WORD", "LONGEST_SUBJECT", "is_number", "is_list", "is_name", "is_tag", "is_subject", "is_standing", "check_tags"] : List Str) ++ (["check_word", "check_standings", "no_ways", "walked", "made", "is_settled_at", "is_made_at", "copied", "without_needless_ways", "numbered", "parted", "alike_classes", "in_order_met", "least_form", "moved", "one_behind_other", "stepped", "way_back", "parting_word", "LARGEST"] : List Str) ++ (["Eater", "eater_of", "small_form", "check_same_tags", "parting", "_law_mixed", "_law_pile", "_law_take", "_law_tags", "_law_eater", "_law_made", "_law_words", "_law_copy", "_law_near", "_law_least_parting"] : List Str)
theorem run (w : World) : HandSHeadRun.RunEq R (PySem.W.view R.prog [60]) hk ob 4000 names w := by
  intro os
  kernel_rfl
end Law
end

section
set_option Elab.async false
set_option linter.all false
set_option maxRecDepth 100000
set_option maxHeartbeats 0
namespace Law
open PySem PySem.W PySem.Calls PyProof.Rows
theorem hd1 : opening R.prog = plainProg R.prog.main.scope.names := by kernel_rfl
theorem hd2 (s : PySem.Shared) : fenceModules? R.prog s = some s := by kernel_rfl
theorem hd3 : defOf (view R.prog [60]) R.name = some (HandSHeadRun.topDef R.prog 60, []) := by kernel_rfl
theorem hd4 : R.prog.theDef R.name = some ((HandSHeadRun.topDef R.prog 60).params, (HandSHeadRun.topDef R.prog 60).body, (HandSHeadRun.topDef R.prog 60).scope) := by kernel_rfl
theorem hd5 : kwWritten? (HandSHeadRun.topDef R.prog 60).params.kwonlyargs (HandSHeadRun.topDef R.prog 60).params.kw_defaults = some [] := by kernel_rfl
theorem hd6 : (!R.writes || R.records.isEmpty) = true := by rfl
theorem hd7 : R.wellSaid = true := by decide +kernel
theorem hd8 : (chainsOk (view R.prog [60]) && opensWell R.prog && (frees R.toRowW && R.within.isEmpty)) = true := by decide +kernel
theorem hd9 : R.prog.bare := ⟨rfl, rfl, rfl, rfl, rfl, by decide +kernel⟩
theorem hd10 : (HandSHeadRun.topDef R.prog 60).name = ("law" : PySem.Str) := by kernel_rfl
theorem hd11 : (HandSHeadRun.topDef R.prog 60).params.defaults = [] := by kernel_rfl
end Law
end

section
set_option Elab.async false
set_option linter.all false
set_option maxRecDepth 100000
set_option maxHeartbeats 0
namespace Law
open PySem PySem.Spec PyProof.Rows L2 LamX QB QM
theorem law_at (w : World) (mg : Str → Option Value) (fa : Addr) (h : Heap) (Y : hk.says w h) (G : h.Ns mainGlobals mg) (hmg : mg ("law" : Str) = some (.ref fa)) :
    ∃ K : PySem.W.Frag, K.In h ∧ LamX.LawAtS PySem.Challenge.rw_subjecttags_k04_whole_parting_subjects w K CX0 7 63 "script" mg fa h := by
  obtain ⟨K, KX, c⟩ := Y
  obtain ⟨X, e1, e2, e3⟩ := tx_mk KX G c.t.d c.more
  have e4 := hmg.symm.trans X.d_law.mg
  have e5 : fa = X.d_law.a := by
    injection e4 with e4
    injection e4
  subst e5
  have hm : (((("without_needless_ways" : Str), (none : Option Str)) : He.Defn)) ∈ tfs := List.mem_singleton.mpr rfl
  have h1 := c.hd _ hm
  have h2 := c.out _ hm
  have h3 := c.empty _ hm
  have c1 : (He.cT K (("without_needless_ways" : Str), (none : Option Str))) = (X.lam_c, X.lam_P) := by rw [e1, e2]; rfl
  rw [c1] at h1 h2 h3
  have hb : ∀ (s : Shared) (u : Value), BindsTo s X.d_law.fd ⟨[u], []⟩ [("script", u)] := by
    obtain ⟨oc, od, kV, doc, pm, an, cdv, ct, osl, hf, _, _⟩ := X.d_law.F.ex
    intro s u
    rw [hf]
    exact .of_eq rfl
  refine ⟨K, KX, X.d_law.fd, [(X.lam_c, X.lam_P)], spLaw K (Tof X), ?_, ?_, ?_, hb, ?_, ?_⟩
  · intro p hp
    rw [List.mem_singleton.mp hp]
    exact h3
  · intro p hp
    rw [List.mem_singleton.mp hp]
    exact h2
  · intro p hp
    rw [List.mem_singleton.mp hp]
    exact PySem.W.codeHd_of_K KX h1
  · intro H a ns hl hbits hT hS
    refine ⟨a, ns, rfl, hS, fun q hq => ?_, fun _ => rfl⟩
    rw [List.mem_singleton.mp hq]
    exact ⟨#[], hT _ (List.mem_singleton.mpr rfl), by simp [TriplesOk], fun pos cv h => by cases h⟩
  · intro base _ _ TB
    exact ok_law X (TB _ (List.mem_singleton.mpr rfl))
end Law
open PySem PySem.W PySem.Calls PyProof.Rows
theorem k04_end : PySem.Challenge.rw_subjecttags_k04_whole_parting_subjects.Holds := by
  w_on; o_law
  refine HandSHeadRun.head_any (r := Law.R) (q := view Law.R.prog [60]) (H := Law.hk) (ob := Law.ob) (M := 4000) (loose := Law.names) (d := HandSHeadRun.topDef Law.R.prog 60) (kwd := []) Law.ob_eq
    Law.hd1 Law.hd2 Law.run Law.hd3 Law.hd4 Law.hd5 Law.hd6 Law.hd7 Law.hd8 Law.hd9 ?hw ?hc
  case hw => w_witness2
  case hc =>
    refine LamX.walk_ofTsE (l := PySem.Challenge.rw_subjecttags_k04_whole_parting_subjects) (n := 63) (k := 7) (x := "script") (CX := fun _ => L2.CX0) rfl (by decide) Law.hd11 ⟨rfl, by decide, by decide⟩ ?F (fun _ _ _ _ _ z => z)
    intro w mg fa h Y G hmg0
    rw [Law.hd10] at hmg0
    exact Law.law_at w mg fa h Y G hmg0
end

theorem PySem.Challenge.cw_subjecttags_k04_whole_parting_subjects_holds : PySem.Challenge.rw_subjecttags_k04_whole_parting_subjects.Holds := by
  exact k04_end
