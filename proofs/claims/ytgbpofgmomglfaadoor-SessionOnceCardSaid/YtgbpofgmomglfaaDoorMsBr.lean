/-
  Layer 23: whether nothing is told that a message of its kind hasn't.
-/
import Derived.Test.YtgbpofgmomglfaaDoorMsWp
namespace Go.Proofs.YtgbpofgmomglfaaDoor.Ms
open Gn (Asks)
open Go.RowKit
set_option maxRecDepth 100000
set_option linter.unusedSimpArgs false
set_option linter.unusedVariables false
theorem wiped_1 (frm born : Int) (known : List Int) (view last op commit client number nonce : Int) (text : ByteArray) (full : Bool) (base : Int) (state : ByteArray) (ents : List Ent) (a : Option Addr) (cap : Nat) (b : Option Addr) (cap2 : Nat) (W0 : World) (mb : Nat) :
    (wipV W0 mb 1 full).Ok (cellsM ⟨1, frm, born, known, view, last, op, commit, client, number, nonce, text, full, base, state, ents⟩ a cap b cap2) [.nums [8, 9], .text 11] ∧ (wipV W0 mb 1 full).after (cellsM ⟨1, frm, born, known, view, last, op, commit, client, number, nonce, text, full, base, state, ents⟩ a cap b cap2) [.nums [8, 9], .text 11] = #[.int .i64 1, .int .i64 frm, .int .i64 born, .slice a known.length cap, .int .i64 view, .int .i64 last, .int .i64 op, .int .i64 commit, .int .i64 0, .int .i64 0, .int .i64 nonce, .string ⟨#[]⟩, .bool full, .int .i64 base, .string state, .slice b ents.length cap2] := by
  constructor
  · simp only [tailA, Vis.Ok, Vis.after, wipV, wNext, wP, cellsM, List.foldl_cons, List.foldl_nil, List.setIfInBounds_toArray, List.set_cons_succ, List.set_cons_zero, List.getElem?_toArray, List.getElem?_cons_succ, List.getElem?_cons_zero]
    simp
  · simp only [tailA, Vis.Ok, Vis.after, wipV, wNext, wP, cellsM, List.foldl_cons, List.foldl_nil, List.setIfInBounds_toArray, List.set_cons_succ, List.set_cons_zero, List.getElem?_toArray, List.getElem?_cons_succ, List.getElem?_cons_zero]
theorem wiped_2 (frm born : Int) (known : List Int) (view last op commit client number nonce : Int) (text : ByteArray) (full : Bool) (base : Int) (state : ByteArray) (ents : List Ent) (a : Option Addr) (cap : Nat) (b : Option Addr) (cap2 : Nat) (W0 : World) (mb : Nat) :
    (wipV W0 mb 2 full).Ok (cellsM ⟨2, frm, born, known, view, last, op, commit, client, number, nonce, text, full, base, state, ents⟩ a cap b cap2) (.nums [1, 2] :: .known :: [.nums [4, 6, 7], .entry]) ∧ (wipV W0 mb 2 full).after (cellsM ⟨2, frm, born, known, view, last, op, commit, client, number, nonce, text, full, base, state, ents⟩ a cap b cap2) (.nums [1, 2] :: .known :: [.nums [4, 6, 7], .entry]) = #[.int .i64 2, .int .i64 0, .int .i64 0, .slice none 0 0, .int .i64 0, .int .i64 last, .int .i64 0, .int .i64 0, .int .i64 client, .int .i64 number, .int .i64 nonce, .string text, .bool full, .int .i64 base, .string state, .slice none 0 0] := by
  constructor
  · simp only [tailA, Vis.Ok, Vis.after, wipV, wNext, wP, cellsM, List.foldl_cons, List.foldl_nil, List.setIfInBounds_toArray, List.set_cons_succ, List.set_cons_zero, List.getElem?_toArray, List.getElem?_cons_succ, List.getElem?_cons_zero]
    simp
  · simp only [tailA, Vis.Ok, Vis.after, wipV, wNext, wP, cellsM, List.foldl_cons, List.foldl_nil, List.setIfInBounds_toArray, List.set_cons_succ, List.set_cons_zero, List.getElem?_toArray, List.getElem?_cons_succ, List.getElem?_cons_zero]
theorem wiped_3 (frm born : Int) (known : List Int) (view last op commit client number nonce : Int) (text : ByteArray) (full : Bool) (base : Int) (state : ByteArray) (ents : List Ent) (a : Option Addr) (cap : Nat) (b : Option Addr) (cap2 : Nat) (W0 : World) (mb : Nat) :
    (wipV W0 mb 3 full).Ok (cellsM ⟨3, frm, born, known, view, last, op, commit, client, number, nonce, text, full, base, state, ents⟩ a cap b cap2) (.nums [1, 2] :: .known :: [.nums [4, 6]]) ∧ (wipV W0 mb 3 full).after (cellsM ⟨3, frm, born, known, view, last, op, commit, client, number, nonce, text, full, base, state, ents⟩ a cap b cap2) (.nums [1, 2] :: .known :: [.nums [4, 6]]) = #[.int .i64 3, .int .i64 0, .int .i64 0, .slice none 0 0, .int .i64 0, .int .i64 last, .int .i64 0, .int .i64 commit, .int .i64 client, .int .i64 number, .int .i64 nonce, .string text, .bool full, .int .i64 base, .string state, .slice b ents.length cap2] := by
  constructor
  · simp only [tailA, Vis.Ok, Vis.after, wipV, wNext, wP, cellsM, List.foldl_cons, List.foldl_nil, List.setIfInBounds_toArray, List.set_cons_succ, List.set_cons_zero, List.getElem?_toArray, List.getElem?_cons_succ, List.getElem?_cons_zero]
    simp
  · simp only [tailA, Vis.Ok, Vis.after, wipV, wNext, wP, cellsM, List.foldl_cons, List.foldl_nil, List.setIfInBounds_toArray, List.set_cons_succ, List.set_cons_zero, List.getElem?_toArray, List.getElem?_cons_succ, List.getElem?_cons_zero]
theorem wiped_11 (frm born : Int) (known : List Int) (view last op commit client number nonce : Int) (text : ByteArray) (full : Bool) (base : Int) (state : ByteArray) (ents : List Ent) (a : Option Addr) (cap : Nat) (b : Option Addr) (cap2 : Nat) (W0 : World) (mb : Nat) :
    (wipV W0 mb 11 full).Ok (cellsM ⟨11, frm, born, known, view, last, op, commit, client, number, nonce, text, full, base, state, ents⟩ a cap b cap2) (.nums [1, 2] :: .known :: [.nums [4, 6]]) ∧ (wipV W0 mb 11 full).after (cellsM ⟨11, frm, born, known, view, last, op, commit, client, number, nonce, text, full, base, state, ents⟩ a cap b cap2) (.nums [1, 2] :: .known :: [.nums [4, 6]]) = #[.int .i64 11, .int .i64 0, .int .i64 0, .slice none 0 0, .int .i64 0, .int .i64 last, .int .i64 0, .int .i64 commit, .int .i64 client, .int .i64 number, .int .i64 nonce, .string text, .bool full, .int .i64 base, .string state, .slice b ents.length cap2] := by
  constructor
  · simp only [tailA, Vis.Ok, Vis.after, wipV, wNext, wP, cellsM, List.foldl_cons, List.foldl_nil, List.setIfInBounds_toArray, List.set_cons_succ, List.set_cons_zero, List.getElem?_toArray, List.getElem?_cons_succ, List.getElem?_cons_zero]
    simp
  · simp only [tailA, Vis.Ok, Vis.after, wipV, wNext, wP, cellsM, List.foldl_cons, List.foldl_nil, List.setIfInBounds_toArray, List.set_cons_succ, List.set_cons_zero, List.getElem?_toArray, List.getElem?_cons_succ, List.getElem?_cons_zero]
theorem wiped_4 (frm born : Int) (known : List Int) (view last op commit client number nonce : Int) (text : ByteArray) (full : Bool) (base : Int) (state : ByteArray) (ents : List Ent) (a : Option Addr) (cap : Nat) (b : Option Addr) (cap2 : Nat) (W0 : World) (mb : Nat) :
    (wipV W0 mb 4 full).Ok (cellsM ⟨4, frm, born, known, view, last, op, commit, client, number, nonce, text, full, base, state, ents⟩ a cap b cap2) (.nums [1, 2] :: .known :: [.nums [4, 8, 9], .text 11]) ∧ (wipV W0 mb 4 full).after (cellsM ⟨4, frm, born, known, view, last, op, commit, client, number, nonce, text, full, base, state, ents⟩ a cap b cap2) (.nums [1, 2] :: .known :: [.nums [4, 8, 9], .text 11]) = #[.int .i64 4, .int .i64 0, .int .i64 0, .slice none 0 0, .int .i64 0, .int .i64 last, .int .i64 op, .int .i64 commit, .int .i64 0, .int .i64 0, .int .i64 nonce, .string ⟨#[]⟩, .bool full, .int .i64 base, .string state, .slice b ents.length cap2] := by
  constructor
  · simp only [tailA, Vis.Ok, Vis.after, wipV, wNext, wP, cellsM, List.foldl_cons, List.foldl_nil, List.setIfInBounds_toArray, List.set_cons_succ, List.set_cons_zero, List.getElem?_toArray, List.getElem?_cons_succ, List.getElem?_cons_zero]
    simp
  · simp only [tailA, Vis.Ok, Vis.after, wipV, wNext, wP, cellsM, List.foldl_cons, List.foldl_nil, List.setIfInBounds_toArray, List.set_cons_succ, List.set_cons_zero, List.getElem?_toArray, List.getElem?_cons_succ, List.getElem?_cons_zero]
theorem wiped_5 (frm born : Int) (known : List Int) (view last op commit client number nonce : Int) (text : ByteArray) (full : Bool) (base : Int) (state : ByteArray) (ents : List Ent) (a : Option Addr) (cap : Nat) (b : Option Addr) (cap2 : Nat) (W0 : World) (mb : Nat) :
    (wipV W0 mb 5 full).Ok (cellsM ⟨5, frm, born, known, view, last, op, commit, client, number, nonce, text, full, base, state, ents⟩ a cap b cap2) (.nums [1, 2] :: .known :: [.nums [4, 6, 7]]) ∧ (wipV W0 mb 5 full).after (cellsM ⟨5, frm, born, known, view, last, op, commit, client, number, nonce, text, full, base, state, ents⟩ a cap b cap2) (.nums [1, 2] :: .known :: [.nums [4, 6, 7]]) = #[.int .i64 5, .int .i64 0, .int .i64 0, .slice none 0 0, .int .i64 0, .int .i64 last, .int .i64 0, .int .i64 0, .int .i64 client, .int .i64 number, .int .i64 nonce, .string text, .bool full, .int .i64 base, .string state, .slice b ents.length cap2] := by
  constructor
  · simp only [tailA, Vis.Ok, Vis.after, wipV, wNext, wP, cellsM, List.foldl_cons, List.foldl_nil, List.setIfInBounds_toArray, List.set_cons_succ, List.set_cons_zero, List.getElem?_toArray, List.getElem?_cons_succ, List.getElem?_cons_zero]
    simp
  · simp only [tailA, Vis.Ok, Vis.after, wipV, wNext, wP, cellsM, List.foldl_cons, List.foldl_nil, List.setIfInBounds_toArray, List.set_cons_succ, List.set_cons_zero, List.getElem?_toArray, List.getElem?_cons_succ, List.getElem?_cons_zero]
theorem wiped_6 (frm born : Int) (known : List Int) (view last op commit client number nonce : Int) (text : ByteArray) (full : Bool) (base : Int) (state : ByteArray) (ents : List Ent) (a : Option Addr) (cap : Nat) (b : Option Addr) (cap2 : Nat) (W0 : World) (mb : Nat) :
    (wipV W0 mb 6 full).Ok (cellsM ⟨6, frm, born, known, view, last, op, commit, client, number, nonce, text, full, base, state, ents⟩ a cap b cap2) (.nums [1, 2] :: .known :: [.nums [4]]) ∧ (wipV W0 mb 6 full).after (cellsM ⟨6, frm, born, known, view, last, op, commit, client, number, nonce, text, full, base, state, ents⟩ a cap b cap2) (.nums [1, 2] :: .known :: [.nums [4]]) = #[.int .i64 6, .int .i64 0, .int .i64 0, .slice none 0 0, .int .i64 0, .int .i64 last, .int .i64 op, .int .i64 commit, .int .i64 client, .int .i64 number, .int .i64 nonce, .string text, .bool full, .int .i64 base, .string state, .slice b ents.length cap2] := by
  constructor
  · simp only [tailA, Vis.Ok, Vis.after, wipV, wNext, wP, cellsM, List.foldl_cons, List.foldl_nil, List.setIfInBounds_toArray, List.set_cons_succ, List.set_cons_zero, List.getElem?_toArray, List.getElem?_cons_succ, List.getElem?_cons_zero]
    simp
  · simp only [tailA, Vis.Ok, Vis.after, wipV, wNext, wP, cellsM, List.foldl_cons, List.foldl_nil, List.setIfInBounds_toArray, List.set_cons_succ, List.set_cons_zero, List.getElem?_toArray, List.getElem?_cons_succ, List.getElem?_cons_zero]
theorem wiped_7 (frm born : Int) (known : List Int) (view last op commit client number nonce : Int) (text : ByteArray) (full : Bool) (base : Int) (state : ByteArray) (ents : List Ent) (a : Option Addr) (cap : Nat) (b : Option Addr) (cap2 : Nat) (W0 : World) (mb : Nat) :
    (wipV W0 mb 7 full).Ok (cellsM ⟨7, frm, born, known, view, last, op, commit, client, number, nonce, text, full, base, state, ents⟩ a cap b cap2) (.nums [1, 2] :: .known :: (.nums [4, 5] :: tailA)) ∧ (wipV W0 mb 7 full).after (cellsM ⟨7, frm, born, known, view, last, op, commit, client, number, nonce, text, full, base, state, ents⟩ a cap b cap2) (.nums [1, 2] :: .known :: (.nums [4, 5] :: tailA)) = #[.int .i64 7, .int .i64 0, .int .i64 0, .slice none 0 0, .int .i64 0, .int .i64 0, .int .i64 0, .int .i64 0, .int .i64 client, .int .i64 number, .int .i64 nonce, .string text, .bool full, .int .i64 0, .string ⟨#[]⟩, .slice none 0 0] := by
  constructor
  · simp only [tailA, Vis.Ok, Vis.after, wipV, wNext, wP, cellsM, List.foldl_cons, List.foldl_nil, List.setIfInBounds_toArray, List.set_cons_succ, List.set_cons_zero, List.getElem?_toArray, List.getElem?_cons_succ, List.getElem?_cons_zero]
    simp
  · simp only [tailA, Vis.Ok, Vis.after, wipV, wNext, wP, cellsM, List.foldl_cons, List.foldl_nil, List.setIfInBounds_toArray, List.set_cons_succ, List.set_cons_zero, List.getElem?_toArray, List.getElem?_cons_succ, List.getElem?_cons_zero]
theorem wiped_8 (frm born : Int) (known : List Int) (view last op commit client number nonce : Int) (text : ByteArray) (full : Bool) (base : Int) (state : ByteArray) (ents : List Ent) (a : Option Addr) (cap : Nat) (b : Option Addr) (cap2 : Nat) (W0 : World) (mb : Nat) :
    (wipV W0 mb 8 full).Ok (cellsM ⟨8, frm, born, known, view, last, op, commit, client, number, nonce, text, full, base, state, ents⟩ a cap b cap2) (.nums [1, 2] :: .known :: (.nums [4] :: tailA)) ∧ (wipV W0 mb 8 full).after (cellsM ⟨8, frm, born, known, view, last, op, commit, client, number, nonce, text, full, base, state, ents⟩ a cap b cap2) (.nums [1, 2] :: .known :: (.nums [4] :: tailA)) = #[.int .i64 8, .int .i64 0, .int .i64 0, .slice none 0 0, .int .i64 0, .int .i64 last, .int .i64 0, .int .i64 0, .int .i64 client, .int .i64 number, .int .i64 nonce, .string text, .bool full, .int .i64 0, .string ⟨#[]⟩, .slice none 0 0] := by
  constructor
  · simp only [tailA, Vis.Ok, Vis.after, wipV, wNext, wP, cellsM, List.foldl_cons, List.foldl_nil, List.setIfInBounds_toArray, List.set_cons_succ, List.set_cons_zero, List.getElem?_toArray, List.getElem?_cons_succ, List.getElem?_cons_zero]
    simp
  · simp only [tailA, Vis.Ok, Vis.after, wipV, wNext, wP, cellsM, List.foldl_cons, List.foldl_nil, List.setIfInBounds_toArray, List.set_cons_succ, List.set_cons_zero, List.getElem?_toArray, List.getElem?_cons_succ, List.getElem?_cons_zero]
theorem wiped_12 (frm born : Int) (known : List Int) (view last op commit client number nonce : Int) (text : ByteArray) (full : Bool) (base : Int) (state : ByteArray) (ents : List Ent) (a : Option Addr) (cap : Nat) (b : Option Addr) (cap2 : Nat) (W0 : World) (mb : Nat) :
    (wipV W0 mb 12 full).Ok (cellsM ⟨12, frm, born, known, view, last, op, commit, client, number, nonce, text, full, base, state, ents⟩ a cap b cap2) (.nums [1, 2] :: .known :: (.nums [4] :: tailA)) ∧ (wipV W0 mb 12 full).after (cellsM ⟨12, frm, born, known, view, last, op, commit, client, number, nonce, text, full, base, state, ents⟩ a cap b cap2) (.nums [1, 2] :: .known :: (.nums [4] :: tailA)) = #[.int .i64 12, .int .i64 0, .int .i64 0, .slice none 0 0, .int .i64 0, .int .i64 last, .int .i64 0, .int .i64 0, .int .i64 client, .int .i64 number, .int .i64 nonce, .string text, .bool full, .int .i64 0, .string ⟨#[]⟩, .slice none 0 0] := by
  constructor
  · simp only [tailA, Vis.Ok, Vis.after, wipV, wNext, wP, cellsM, List.foldl_cons, List.foldl_nil, List.setIfInBounds_toArray, List.set_cons_succ, List.set_cons_zero, List.getElem?_toArray, List.getElem?_cons_succ, List.getElem?_cons_zero]
    simp
  · simp only [tailA, Vis.Ok, Vis.after, wipV, wNext, wP, cellsM, List.foldl_cons, List.foldl_nil, List.setIfInBounds_toArray, List.set_cons_succ, List.set_cons_zero, List.getElem?_toArray, List.getElem?_cons_succ, List.getElem?_cons_zero]
theorem wiped_9 (frm born : Int) (known : List Int) (view last op commit client number nonce : Int) (text : ByteArray) (full : Bool) (base : Int) (state : ByteArray) (ents : List Ent) (a : Option Addr) (cap : Nat) (b : Option Addr) (cap2 : Nat) (W0 : World) (mb : Nat) :
    (wipV W0 mb 9 full).Ok (cellsM ⟨9, frm, born, known, view, last, op, commit, client, number, nonce, text, full, base, state, ents⟩ a cap b cap2) (.nums [1, 2] :: .known :: [.nums [10]]) ∧ (wipV W0 mb 9 full).after (cellsM ⟨9, frm, born, known, view, last, op, commit, client, number, nonce, text, full, base, state, ents⟩ a cap b cap2) (.nums [1, 2] :: .known :: [.nums [10]]) = #[.int .i64 9, .int .i64 0, .int .i64 0, .slice none 0 0, .int .i64 view, .int .i64 last, .int .i64 op, .int .i64 commit, .int .i64 client, .int .i64 number, .int .i64 0, .string text, .bool full, .int .i64 base, .string state, .slice b ents.length cap2] := by
  constructor
  · simp only [tailA, Vis.Ok, Vis.after, wipV, wNext, wP, cellsM, List.foldl_cons, List.foldl_nil, List.setIfInBounds_toArray, List.set_cons_succ, List.set_cons_zero, List.getElem?_toArray, List.getElem?_cons_succ, List.getElem?_cons_zero]
    simp
  · simp only [tailA, Vis.Ok, Vis.after, wipV, wNext, wP, cellsM, List.foldl_cons, List.foldl_nil, List.setIfInBounds_toArray, List.set_cons_succ, List.set_cons_zero, List.getElem?_toArray, List.getElem?_cons_succ, List.getElem?_cons_zero]
theorem wiped_10 (frm born : Int) (known : List Int) (view last op commit client number nonce : Int) (text : ByteArray) (full : Bool) (base : Int) (state : ByteArray) (ents : List Ent) (a : Option Addr) (cap : Nat) (b : Option Addr) (cap2 : Nat) (W0 : World) (mb : Nat) :
    (wipV W0 mb 10 true).Ok (cellsM ⟨10, frm, born, known, view, last, op, commit, client, number, nonce, text, true, base, state, ents⟩ a cap b cap2) (.nums [1, 2] :: .known :: (.nums [4, 10] :: .yes :: tailA)) ∧ (wipV W0 mb 10 true).after (cellsM ⟨10, frm, born, known, view, last, op, commit, client, number, nonce, text, true, base, state, ents⟩ a cap b cap2) (.nums [1, 2] :: .known :: (.nums [4, 10] :: .yes :: tailA)) = #[.int .i64 10, .int .i64 0, .int .i64 0, .slice none 0 0, .int .i64 0, .int .i64 last, .int .i64 0, .int .i64 0, .int .i64 client, .int .i64 number, .int .i64 0, .string text, .bool false, .int .i64 0, .string ⟨#[]⟩, .slice none 0 0] := by
  constructor
  · simp only [tailA, Vis.Ok, Vis.after, wipV, wNext, wP, cellsM, List.foldl_cons, List.foldl_nil, List.setIfInBounds_toArray, List.set_cons_succ, List.set_cons_zero, List.getElem?_toArray, List.getElem?_cons_succ, List.getElem?_cons_zero]
    simp
  · simp only [tailA, Vis.Ok, Vis.after, wipV, wNext, wP, cellsM, List.foldl_cons, List.foldl_nil, List.setIfInBounds_toArray, List.set_cons_succ, List.set_cons_zero, List.getElem?_toArray, List.getElem?_cons_succ, List.getElem?_cons_zero]
theorem wiped_100 (frm born : Int) (known : List Int) (view last op commit client number nonce : Int) (text : ByteArray) (full : Bool) (base : Int) (state : ByteArray) (ents : List Ent) (a : Option Addr) (cap : Nat) (b : Option Addr) (cap2 : Nat) (W0 : World) (mb : Nat) :
    (wipV W0 mb 10 false).Ok (cellsM ⟨10, frm, born, known, view, last, op, commit, client, number, nonce, text, false, base, state, ents⟩ a cap b cap2) (.nums [1, 2] :: .known :: [.nums [4, 10], .yes]) ∧ (wipV W0 mb 10 false).after (cellsM ⟨10, frm, born, known, view, last, op, commit, client, number, nonce, text, false, base, state, ents⟩ a cap b cap2) (.nums [1, 2] :: .known :: [.nums [4, 10], .yes]) = #[.int .i64 10, .int .i64 0, .int .i64 0, .slice none 0 0, .int .i64 0, .int .i64 last, .int .i64 op, .int .i64 commit, .int .i64 client, .int .i64 number, .int .i64 0, .string text, .bool false, .int .i64 base, .string state, .slice b ents.length cap2] := by
  constructor
  · simp only [tailA, Vis.Ok, Vis.after, wipV, wNext, wP, cellsM, List.foldl_cons, List.foldl_nil, List.setIfInBounds_toArray, List.set_cons_succ, List.set_cons_zero, List.getElem?_toArray, List.getElem?_cons_succ, List.getElem?_cons_zero]
    simp
  · simp only [tailA, Vis.Ok, Vis.after, wipV, wNext, wP, cellsM, List.foldl_cons, List.foldl_nil, List.setIfInBounds_toArray, List.set_cons_succ, List.set_cons_zero, List.getElem?_toArray, List.getElem?_cons_succ, List.getElem?_cons_zero]
/-- A struct is loaded whole. -/
theorem wpList_load {P : Program} {ops : Array Oper} {Q : Exit → Act → World → Prop} {a : Act} {w : World} {rest : List Oper} {o : Oper} (hw : Region.wanted o (yielded ops a.tmps) = true) (t : TypeId) (x : Operand) (hop : o.op = .load t x) (ad : Addr) (hx : a.eval x = .pointer (some ad)) (v : Value) (hl : (loadVar t ad).run P w = .ok v w)
    (h : wpList P ops Q rest (a.put o.dst v) w) : wpList P ops Q (o :: rest) a w := by
  unfold wpList
  rw [if_pos hw]
  refine .inl ?_
  unfold Oper.wp execOp
  rw [hop]
  have : (Instr.loadAt t (.pointer (some ad))).run P w = .ok v w := by
    simp [Instr.loadAt, Instr.sureAddr, asAddr, Result.andThen, hl]
  simp only [hx, Sem.run_bind, this, Result.andThen_ok, Sem.run_pure]
  exact h
theorem wiped (m : Msg) (a : Option Addr) (cap : Nat) (b : Option Addr) (cap2 : Nat) (W0 : World) (mb : Nat) (h1 : 1 ≤ m.kind) (h2 : m.kind ≤ 12) :
    (wipV W0 mb m.kind m.full).Ok (cellsM m a cap b cap2) (showA m.kind m.full) ∧ ∃ a' cap' b' cap2', (wipV W0 mb m.kind m.full).after (cellsM m a cap b cap2) (showA m.kind m.full) = cellsM (wipeM m) a' cap' b' cap2' := by
  obtain ⟨kind, frm, born, known, view, last, op, commit, client, number, nonce, text, full, base, state, ents⟩ := m
  dsimp only at *
  by_cases k1 : kind = 1
  · subst k1
    have h := wiped_1 frm born known view last op commit client number nonce text full base state ents a cap b cap2 W0 mb
    exact ⟨h.1, a, cap, b, cap2, h.2.trans rfl⟩
  by_cases k2 : kind = 2
  · subst k2
    have h := wiped_2 frm born known view last op commit client number nonce text full base state ents a cap b cap2 W0 mb
    exact ⟨h.1, none, 0, none, 0, h.2.trans rfl⟩
  by_cases k3 : kind = 3
  · subst k3
    have h := wiped_3 frm born known view last op commit client number nonce text full base state ents a cap b cap2 W0 mb
    exact ⟨h.1, none, 0, b, cap2, h.2.trans rfl⟩
  by_cases k4 : kind = 4
  · subst k4
    have h := wiped_4 frm born known view last op commit client number nonce text full base state ents a cap b cap2 W0 mb
    exact ⟨h.1, none, 0, b, cap2, h.2.trans rfl⟩
  by_cases k5 : kind = 5
  · subst k5
    have h := wiped_5 frm born known view last op commit client number nonce text full base state ents a cap b cap2 W0 mb
    exact ⟨h.1, none, 0, b, cap2, h.2.trans rfl⟩
  by_cases k6 : kind = 6
  · subst k6
    have h := wiped_6 frm born known view last op commit client number nonce text full base state ents a cap b cap2 W0 mb
    exact ⟨h.1, none, 0, b, cap2, h.2.trans rfl⟩
  by_cases k7 : kind = 7
  · subst k7
    have h := wiped_7 frm born known view last op commit client number nonce text full base state ents a cap b cap2 W0 mb
    exact ⟨h.1, none, 0, none, 0, h.2.trans rfl⟩
  by_cases k8 : kind = 8
  · subst k8
    have h := wiped_8 frm born known view last op commit client number nonce text full base state ents a cap b cap2 W0 mb
    exact ⟨h.1, none, 0, none, 0, h.2.trans rfl⟩
  by_cases k9 : kind = 9
  · subst k9
    have h := wiped_9 frm born known view last op commit client number nonce text full base state ents a cap b cap2 W0 mb
    exact ⟨h.1, none, 0, b, cap2, h.2.trans rfl⟩
  by_cases k11 : kind = 11
  · subst k11
    have h := wiped_11 frm born known view last op commit client number nonce text full base state ents a cap b cap2 W0 mb
    exact ⟨h.1, none, 0, b, cap2, h.2.trans rfl⟩
  by_cases k12 : kind = 12
  · subst k12
    have h := wiped_12 frm born known view last op commit client number nonce text full base state ents a cap b cap2 W0 mb
    exact ⟨h.1, none, 0, none, 0, h.2.trans rfl⟩
  have k10 : kind = 10 := by omega
  subst k10
  cases full with
  | true =>
    have h := wiped_10 frm born known view last op commit client number nonce text true base state ents a cap b cap2 W0 mb
    exact ⟨h.1, none, 0, none, 0, h.2.trans rfl⟩
  | false =>
    have h := wiped_100 frm born known view last op commit client number nonce text true base state ents a cap b cap2 W0 mb
    exact ⟨h.1, none, 0, b, cap2, h.2.trans rfl⟩
theorem size_nil (t : ByteArray) : (t.size = 0 → t.toList = []) ∧ (t.toList = [] → t.size = 0) := by
  constructor
  · intro h
    rw [ByteArray.toList_eq]
    exact Array.toList_eq_nil_iff.2 (Array.size_eq_zero_iff.1 h)
  · intro h
    rw [ByteArray.toList_eq] at h
    exact Array.size_eq_zero_iff.2 (Array.toList_eq_nil_iff.1 h)
set_option maxHeartbeats 8000000 in
theorem bare_any (kind frm born : Int) (known : List Int) (view last op commit client number nonce : Int) (text : ByteArray) (full : Bool) (base : Int) (state : ByteArray) (ents : List Ent) (a : Option Addr) (n cap : Nat) (b : Option Addr) (nn cap2 : Nat) (w : World) (h1 : 1 ≤ kind) (h2 : kind ≤ 12) (hn : known.length = n) (hnn : ents.length = nn) :
    Calls Tryd.prog 44 #[.agg #[.int .i64 kind, .int .i64 frm, .int .i64 born, .slice a n cap, .int .i64 view, .int .i64 last, .int .i64 op, .int .i64 commit, .int .i64 client, .int .i64 number, .int .i64 nonce, .string text, .bool full, .int .i64 base, .string state, .slice b nn cap2]] w (Says (bareB ⟨kind, frm, born, known, view, last, op, commit, client, number, nonce, text, full, base, state, ents⟩) w) := by
  obtain ⟨V, hV⟩ : ∃ V, V = w.alloc (.cells #[.int .i64 kind, .int .i64 frm, .int .i64 born, .slice a n cap, .int .i64 view, .int .i64 last, .int .i64 op, .int .i64 commit, .int .i64 client, .int .i64 number, .int .i64 nonce, .string text, .bool full, .int .i64 base, .string state, .slice b nn cap2] 53) := ⟨_, rfl⟩
  have hb : Below w.heap.size w V := by rw [hV]; exact (Below.refl _ w).alloc (Nat.le_refl _) _
  have hx : V.heap[w.heap.size]? = some (.cells #[.int .i64 kind, .int .i64 frm, .int .i64 born, .slice a n cap, .int .i64 view, .int .i64 last, .int .i64 op, .int .i64 commit, .int .i64 client, .int .i64 number, .int .i64 nonce, .string text, .bool full, .int .i64 base, .string state, .slice b nn cap2] 53 (0, 0)) := by rw [hV]; exact heap_alloc_new w _
  obtain ⟨m, hm⟩ : ∃ m : Msg, m = ⟨kind, frm, born, known, view, last, op, commit, client, number, nonce, text, full, base, state, ents⟩ := ⟨_, rfl⟩
  have hcm : cellsM m a cap b cap2 = #[.int .i64 kind, .int .i64 frm, .int .i64 born, .slice a n cap, .int .i64 view, .int .i64 last, .int .i64 op, .int .i64 commit, .int .i64 client, .int .i64 number, .int .i64 nonce, .string text, .bool full, .int .i64 base, .string state, .slice b nn cap2] := by rw [hm]; unfold cellsM; dsimp only; rw [hn, hnn]
  obtain ⟨hok, a', cap', b', cap2', haf⟩ := wiped m a cap b cap2 w w.heap.size (by rw [hm]; exact h1) (by rw [hm]; exact h2)
  have hsh := show_any (wipV w w.heap.size m.kind m.full) (wip_ok w w.heap.size m.kind m.full) (cellsM m a cap b cap2) V ⟨by rw [hcm]; exact hx, Nat.le_refl _, hb, rfl, rfl⟩ (by rw [hm]; exact h1) (by rw [hm]; exact h2) hok
  have hsh : Calls Tryd.prog 29 #[.pointer (some ⟨w.heap.size, 0, none⟩), .iface 128 (.agg #[])] V (fun e w' => e = .returned (.tuple #[]) ∧ WpR w w.heap.size m.kind ((wipV w w.heap.size m.kind m.full).after (cellsM m a cap b cap2) (showA m.kind m.full)) w') := hsh
  rw [haf] at hsh
  rw [show bareB ⟨kind, frm, born, known, view, last, op, commit, client, number, nonce, text, full, base, state, ents⟩ = emptyB (wipeM m) by rw [hm]; rfl]
  obtain ⟨m2, hm2⟩ : ∃ m2, m2 = wipeM m := ⟨_, rfl⟩
  rw [← hm2] at hsh ⊢
  obtain ⟨k2, fr2, bo2, kn2, vi2, la2, op2, co2, cl2, nu2, no2, te2, fu2, ba2, st2, en2⟩ := m2
  have HSH := Lib.hid (show Calls Tryd.prog 29 #[.pointer (some ⟨w.heap.size, 0, none⟩), .iface 128 (.agg #[])] V (fun e w' => e = .returned (.tuple #[]) ∧ WpR w w.heap.size m.kind #[.int .i64 k2, .int .i64 fr2, .int .i64 bo2, .slice a' kn2.length cap', .int .i64 vi2, .int .i64 la2, .int .i64 op2, .int .i64 co2, .int .i64 cl2, .int .i64 nu2, .int .i64 no2, .string te2, .bool fu2, .int .i64 ba2, .string st2, .slice b' en2.length cap2'] w') from hsh)
  have HV := Lib.hid hV
  clear hb hx hok haf hsh hV hcm hm hm2 h1 h2 hn hnn
  obtain ⟨q, hq⟩ : ∃ q, q = emptyB ⟨k2, fr2, bo2, kn2, vi2, la2, op2, co2, cl2, nu2, no2, te2, fu2, ba2, st2, en2⟩ := ⟨_, rfl⟩
  rw [← hq]
  unfold emptyB at hq
  dsimp only at hq
  obtain ⟨z, hz⟩ : ∃ z, z = (numsM ⟨k2, fr2, bo2, kn2, vi2, la2, op2, co2, cl2, nu2, no2, te2, fu2, ba2, st2, en2⟩).any nonz := ⟨_, rfl⟩
  rw [← hz] at hq
  have HQ := Lib.hid hq
  have HZ := Lib.hid hz
  clear hq hz
  obtain ⟨nk, hnk⟩ : ∃ n, n = kn2.length := ⟨_, rfl⟩
  obtain ⟨ne, hne⟩ : ∃ n, n = en2.length := ⟨_, rfl⟩
  rw [← hnk, ← hne] at HSH HQ
  clear hnk hne hsh
  go_enter Tryd.func44, Tryd.ntmps44
  go_upto_region 1 with fail
  rw [← HV.out]
  generalize Value.agg #[.int .i64 kind, .int .i64 frm, .int .i64 born, .slice a n cap, .int .i64 view, .int .i64 last, .int .i64 op, .int .i64 commit, .int .i64 client, .int .i64 number, .int .i64 nonce, .string text, .bool full, .int .i64 base, .string state, .slice b nn cap2] = A0
  have hbw : ∀ w : World, (Instr.build 128 #[]).run Tryd.prog w = .ok (.agg #[]) w := fun w => by kernel_rfl
  have hmi : ∀ w : World, (Instr.makeInterface 128 (.agg #[])).run Tryd.prog w = .ok (.iface 128 (.agg #[])) w := fun w => by kernel_rfl
  go_wp2_with fail
  clear hbw hmi
  refine HSH.out.mono ?_
  rintro e w2 ⟨rfl, hw⟩
  have HB2 := Lib.hid hw.2.2.1
  have HX2 := Lib.hid hw.1
  clear hw
  obtain ⟨AG, hAG⟩ : ∃ v, v = Value.agg #[.int .i64 k2, .int .i64 fr2, .int .i64 bo2, .slice a' nk cap', .int .i64 vi2, .int .i64 la2, .int .i64 op2, .int .i64 co2, .int .i64 cl2, .int .i64 nu2, .int .i64 no2, .string te2, .bool fu2, .int .i64 ba2, .string st2, .slice b' ne cap2'] := ⟨_, rfl⟩
  have HNU := Lib.hid (fun (w : World) => show Calls Tryd.prog 46 #[AG] w _ by rw [hAG]; exact numbers_any k2 fr2 bo2 kn2 vi2 la2 op2 co2 cl2 nu2 no2 te2 fu2 ba2 st2 en2 a' nk cap' b' ne cap2' w)
  have hload : (loadVar 53 ⟨w.heap.size, 0, none⟩).run Tryd.prog w2 = .ok AG w2 := by
    rw [hAG]
    exact run_loadVar_row w2 _ _ 53 _ _ _ HX2.out Tryd.underlying53 rfl (by kernel_rfl)
  clear hAG
  go_wp2_with (first | (refine wpList_load (by rfl) 53 _ rfl _ rfl _ hload ?_) | fail)
  clear hload
  refine (HNU.out _).mono ?_
  rintro e w3 ⟨g, rfl, hi, b3⟩
  have HB3 := Lib.hid (HB2.out.trans (b3.mono HB2.out.size))
  have HX3 := Lib.hid ((b3.block _ (Gn.heap_lt HX2.out)).trans HX2.out)
  have HI := Lib.hid hi
  clear b3 hi HNU
  go_wp2_with fail
  refine (nonz_ints _ _ _ _ _ HI.out (by decide)).mono ?_
  rw [← HZ.out]
  rintro e w4 ⟨rfl, b4⟩
  have HB4 := Lib.hid (HB3.out.trans (b4.mono HB3.out.size))
  have HX4 := Lib.hid ((b4.block _ (Gn.heap_lt HX3.out)).trans HX3.out)
  clear b4
  have x3 := cell_of_row _ _ 3 _ _ (0, 0) HX4.out
  have x11 := cell_of_row _ _ 11 _ _ (0, 0) HX4.out
  have x12 := cell_of_row _ _ 12 _ _ (0, 0) HX4.out
  have x14 := cell_of_row _ _ 14 _ _ (0, 0) HX4.out
  have x15 := cell_of_row _ _ 15 _ _ (0, 0) HX4.out
  cases z with
  | true =>
    have hqt : q = false := by rw [HQ.out]; simp
    clear HQ
    subst hqt
    go_wp2
    go_ret
    exact ⟨rfl, HB4.out⟩
  | false =>
    by_cases ht : te2.size = 0
    · have t1 : te2.toList = [] := (size_nil te2).1 ht
      have t2 : te2.toList.isEmpty = true := by rw [t1]; rfl
      cases fu2 with
      | true =>
        have hqt : q = false := by rw [HQ.out]; simp
        clear HQ
        subst hqt
        go_wp2
        go_ret
        exact ⟨rfl, HB4.out⟩
      | false =>
        by_cases hs : st2.size = 0
        · have s1 : st2.toList = [] := (size_nil st2).1 hs
          have s2 : st2.toList.isEmpty = true := by rw [s1]; rfl
          by_cases hk : nk = 0
          · have k1 : ((nk : Int) == 0) = true := by simpa using hk
            by_cases he : ne = 0
            · have e1 : ((ne : Int) == 0) = true := by simpa using he
              have hqt : q = true := by rw [HQ.out, decide_eq_true ht, decide_eq_true hs, decide_eq_true hk, decide_eq_true he]; rfl
              clear HQ
              have HQT := Lib.hid hqt
              clear hqt ht hs
              go_wp2
              go_ret
              exact ⟨by rw [HQT.out]; first | rfl | simp [hk, he], HB4.out⟩
            · have e1 : ((ne : Int) == 0) = false := by simpa using he
              have HQT := Lib.hid (show q = false by rw [HQ.out, decide_eq_false he]; simp)
              clear HQ
              go_wp2
              go_ret
              exact ⟨by rw [HQT.out]; first | rfl | simp [he], HB4.out⟩
          · have k1 : ((nk : Int) == 0) = false := by simpa using hk
            have HQT := Lib.hid (show q = false by rw [HQ.out, decide_eq_false hk]; simp)
            clear HQ
            go_wp2
            go_ret
            exact ⟨by rw [HQT.out]; first | rfl | simp [hk], HB4.out⟩
        · have s1 : ¬ st2.toList = [] := fun h => hs ((size_nil st2).2 h)
          have s2 : st2.toList.isEmpty = false := by rw [List.isEmpty_eq_false_iff]; exact s1
          have HQT := Lib.hid (show q = false by rw [HQ.out, decide_eq_false hs]; simp)
          clear HQ
          go_wp2
          go_ret
          exact ⟨by rw [HQT.out]; rfl, HB4.out⟩
    · have t1 : ¬ te2.toList = [] := fun h => ht ((size_nil te2).2 h)
      have t2 : te2.toList.isEmpty = false := by rw [List.isEmpty_eq_false_iff]; exact t1
      have HQT := Lib.hid (show q = false by rw [HQ.out, decide_eq_false ht]; simp)
      clear HQ
      go_wp2
      go_ret
      exact ⟨by rw [HQT.out]; rfl, HB4.out⟩
end Go.Proofs.YtgbpofgmomglfaaDoor.Ms
